import Derived.Test.YtpnokfgplnmjpaaGreatDoorGRHB
import Derived.Test.YtpnokfgplnmjpaaGreatDoorGQW
import Derived.Test.YtpnokfgplnmjpaaGreatDoorGRCA
import Derived.Test.YtpnokfgplnmjpaaGreatDoorGSgQ
set_option linter.unusedSimpArgs false
set_option linter.unusedVariables false

namespace Go.Proofs.YtpnokfgplnmjpaaGreatDoor
open Go.RowKit
attribute [local go_sem ↓] Go.wp_at_zero Go.wp_at_succ

set_option maxHeartbeats 32000000 in
set_option maxRecDepth 100000 in
theorem rAdd_same {p q:Rat} {b1 b3:Bool} {m1 m2 m3 k1 k2 k3:ByteArray} (hp:Rq p b1 m1 k1) (hq:Rq q b1 m2 k2) (hr':Rq (mkRat (sgn b1 ((p.num.natAbs*q.den)+(q.num.natAbs*p.den))) (p.den*q.den)) b3 m3 k3)  (s1:m1.size≤10000) (s2:m2.size≤10000) (s3:(mag p.den).size≤10000) (s4:(mag q.den).size≤10000) (w:World) :
  Calls Tryz.prog 77 #[.agg #[.bool b1,.string m1,.bool false,.string k1],.agg #[.bool b1,.string m2,.bool false,.string k2]] w (RetB w (.agg #[.bool b3,.string m3,.bool false,.string k3])):=by
 have ks:∀ {x:Rat} {b:Bool} {m k:ByteArray},Rq x b m k→(mag x.den).size≤10000→k.size≤10000:=fun {x b m k} h hs=>by
  by_cases hd:x.den=1
  · rw [h.den1 hd];exact Nat.zero_le _
  · rw [h.den2 hd];exact hs
 have HF1:=Lib.hid (fun V=>rof2 hp (by omega) (by have:=ks hp s3;omega) V)
 have HF2:=Lib.hid (fun V=>rof2 hq (by omega) (by have:=ks hq s4;omega) V)
 have n0:nd p.num.natAbs≤10000:=by unfold nd;rw [←hp.mag.2];exact s1
 have n1:nd p.den≤10000:=s3
 have n2:nd q.num.natAbs≤10000:=by unfold nd;rw [←hq.mag.2];exact s2
 have n3:nd q.den≤10000:=s4
 have n4:nd (p.num.natAbs*q.den)≤20000:=by have:=nd_mul p.num.natAbs q.den;omega
 have n5:nd (q.num.natAbs*p.den)≤20000:=by have:=nd_mul q.num.natAbs p.den;omega
 have n6:nd (p.den*q.den)≤20000:=by have:=nd_mul p.den q.den;omega
 have n7:nd ((p.num.natAbs*q.den)+(q.num.natAbs*p.den))≤30000:=by have:=nd_add (p.num.natAbs*q.den) (q.num.natAbs*p.den);omega
 have hcn:∀ (A B:Option Addr) (n m c d:Nat) (V:World),Tr V A n c ((p.num.natAbs*q.den)+(q.num.natAbs*p.den))→Tr V B m d (p.den*q.den)→Calls Tryz.prog 123 #[.agg #[.bool b1,.slice A n c,.slice B m d]] V (RetB V (.agg #[.bool b3,.string m3,.bool false,.string k3])):=by
  intro A B n m c d V hA hB
  refine (rcanonical b1 A B n m c d _ _ V (by have:=hA.ln;omega) (by have:=hB.ln;omega) hA hB (Nat.mul_pos p.den_pos q.den_pos)).mono ?_
  rintro e w3 ⟨b4,m4,k4,rfl,hq4,hb3⟩
  obtain ⟨rfl,rfl,rfl⟩:=hr'.inj hq4
  exact ⟨rfl,hb3⟩
 have HN0:=Lib.hid n0
 have HN1:=Lib.hid n1
 have HN2:=Lib.hid n2
 have HN3:=Lib.hid n3
 have HN4:=Lib.hid n4
 have HN5:=Lib.hid n5
 have HCN:=Lib.hid hcn
 have X:=Lib.hid ((((Sb.start w).new #[.bool b1,.string m1,.bool false,.string k1] 25).new #[.bool b1,.string m2,.bool false,.string k2] 25).new #[.bool false,.string ⟨#[]⟩,.bool false,.string ⟨#[]⟩] 25)
 have X:=Lib.hid (X.out.pick [0,1,2] [(w.heap.size,#[.bool b1,.string m1,.bool false,.string k1],25),(w.heap.size+1,#[.bool b1,.string m2,.bool false,.string k2],25),(w.heap.size+1+1,#[.bool false,.string ⟨#[]⟩,.bool false,.string ⟨#[]⟩],25)] [] (by simp) (by decide) (by simp))
 clear hp hq hr' hcn n0 n1 n2 n3 n4 n5 n6 n7 s1 s2 s3 s4 ks
 go_enter Tryz.func77,Tryz.ntmps77
 go_upto_region 1 with fail
 go_cut [5,6] (fun s5 s6 wx=>∃ g5 g6 A1 n1 c1 B1 x1 d1 A3 n3 c3 B3 x3 d3,s5=.pointer (some ⟨g5,0,none⟩)∧s6=.pointer (some ⟨g6,0,none⟩)∧Sb w [(w.heap.size+1+1,#[.bool false,.string ⟨#[]⟩,.bool false,.string ⟨#[]⟩],25),(g5,#[.bool b1,.slice A1 n1 c1,.slice B1 x1 d1],110),(g6,#[.bool b1,.slice A3 n3 c3,.slice B3 x3 d3],110)] [(A1,n1,c1,p.num.natAbs),(B1,x1,d1,p.den),(A3,n3,c3,q.num.natAbs),(B3,x3,d3,q.den)] wx)
 case first =>
  refine wp_region_any (by kernel_rfl) ?_
  have X:=Lib.hid X.out.drew
  obtain ⟨W0,hV⟩:=wexi X.out
  rw [show ∀ v:World,{ v with drawn:=v.drawn+1 }=v.drew from fun _=>rfl,←hV]
  rw [←hV] at X
  clear hV
  refine rg_run (ef:=[.val (.agg #[.bool b1,.string m1,.bool false,.string k1]),.rel (FracP b1 p.num.natAbs p.den),.val (.agg #[.bool b1,.string m2,.bool false,.string k2]),.rel (FracP b1 q.num.natAbs q.den),.new #[.bool false,.slice none 0 0,.slice none 0 0] 110,.new #[.bool false,.slice none 0 0,.slice none 0 0] 110]) (ds:=[10,11,12,13,5,6]) (by kernel_rfl) (stays_of (List.forall_mem_cons.2 ⟨trivial,(List.forall_mem_cons.2 ⟨fine_frac _ _ _,(List.forall_mem_cons.2 ⟨trivial,(List.forall_mem_cons.2 ⟨fine_frac _ _ _,(List.forall_mem_cons.2 ⟨trivial,(List.forall_mem_cons.2 ⟨trivial,(fun _ h=>by simp at h)⟩)⟩)⟩)⟩)⟩)⟩)) (by decide) rfl (by intro d hd;simp at hd ⊢;omega) (fun i d o hd ho listed a w1 hR hdep K hK=>?_) 2 (fun a w1 hR=>?_)
  · have X:=Lib.hid (X.out.next hR.bel)
    have HKt:=Lib.hid hK
    have HDp:=Lib.hid hdep
    have sl2:a.tmps.getD 2 undef=.pointer (some ⟨w.heap.size,0,none⟩):=hR.keep 2 (by decide)
    have sl3:a.tmps.getD 3 undef=.pointer (some ⟨w.heap.size+1,0,none⟩):=hR.keep 3 (by decide)
    have HRg:=Lib.hid hR
    clear hK hdep hR
    rcases i with _ | _ | _ | _ | _ | _ | i
    · cases hd
      cases ho
      obtain ⟨x00,x01,x02,x03⟩:=X.out.c4 (i:=0) rfl
      obtain ⟨x10,x11,x12,x13⟩:=X.out.c4 (i:=1) rfl
      go_simp
      exact HKt.out _ _ (Or.inl ⟨rfl,Below.refl _ _⟩)
    · cases hd
      cases ho
      have dd0:a.tmps.getD 10 undef=.agg #[.bool b1,.string m1,.bool false,.string k1]:=HRg.out.val 0 _ (HDp.out 0 (by decide)) rfl
      go_simp
      (go_at_call 119;refine (HF1.out _).mono ?_;rintro e u ⟨A9,n9,c9,B9,m9,d9,rfl,hT9,hU9,hb9,_,_⟩)
      try go_wp2_with fail
      exact HKt.out _ _ (Or.inr (Or.inr ⟨_,rfl,⟨A9,n9,c9,B9,m9,d9,rfl,hT9,hU9⟩,hb9⟩))
    · cases hd
      cases ho
      obtain ⟨x00,x01,x02,x03⟩:=X.out.c4 (i:=0) rfl
      obtain ⟨x10,x11,x12,x13⟩:=X.out.c4 (i:=1) rfl
      go_simp
      exact HKt.out _ _ (Or.inl ⟨rfl,Below.refl _ _⟩)
    · cases hd
      cases ho
      have dd2:a.tmps.getD 12 undef=.agg #[.bool b1,.string m2,.bool false,.string k2]:=HRg.out.val 2 _ (HDp.out 2 (by decide)) rfl
      go_simp
      (go_at_call 119;refine (HF2.out _).mono ?_;rintro e u ⟨A9,n9,c9,B9,m9,d9,rfl,hT9,hU9,hb9,_,_⟩)
      try go_wp2_with fail
      exact HKt.out _ _ (Or.inr (Or.inr ⟨_,rfl,⟨A9,n9,c9,B9,m9,d9,rfl,hT9,hU9⟩,hb9⟩))
    · cases hd
      cases ho
      go_simp
      exact HKt.out _ _ (Or.inr (Or.inl ⟨_,_,rfl,rfl,rfl⟩))
    · cases hd
      cases ho
      go_simp
      exact HKt.out _ _ (Or.inr (Or.inl ⟨_,_,rfl,rfl,rfl⟩))
    · cases hd
  obtain ⟨g4,hg4,lg4,kg4⟩:=hR.new 4 _ _ (by rfl) rfl
  obtain ⟨g5,hg5,lg5,kg5⟩:=hR.new 5 _ _ (by rfl) rfl
  have vv0:a.tmps.getD 10 undef=.agg #[.bool b1,.string m1,.bool false,.string k1]:=hR.val 0 _ (by rfl) rfl
  obtain ⟨A1,n1,c1,B1,m1,d1,vv1,hT1,hU1⟩:=hR.rel 1 _ (by rfl) rfl
  replace vv1:a.tmps.getD 11 undef=.agg #[.bool b1,.slice A1 n1 c1,.slice B1 m1 d1]:=vv1
  have vv2:a.tmps.getD 12 undef=.agg #[.bool b1,.string m2,.bool false,.string k2]:=hR.val 2 _ (by rfl) rfl
  obtain ⟨A3,n3,c3,B3,m3,d3,vv3,hT3,hU3⟩:=hR.rel 3 _ (by rfl) rfl
  replace vv3:a.tmps.getD 13 undef=.agg #[.bool b1,.slice A3 n3 c3,.slice B3 m3 d3]:=vv3
  replace hg4:a.tmps.getD 5 undef=.pointer (some ⟨g4,0,none⟩):=hg4
  replace hg5:a.tmps.getD 6 undef=.pointer (some ⟨g5,0,none⟩):=hg5
  have hne:g4≠g5:=fun e=>hR.ne 4 5 _ _ _ _ g4 (by decide) (by rfl) (by rfl) rfl rfl hg4 (by rw [e];exact hg5)
  have X:=Lib.hid (X.out.add2 hR.bel lg4 kg4 lg5 kg5 hne)
  have X:=Lib.hid (X.out.rows [(A1,n1,c1,p.num.natAbs),(B1,m1,d1,p.den),(A3,n3,c3,q.num.natAbs),(B3,m3,d3,q.den)] (List.forall_mem_cons.2 ⟨hT1,List.forall_mem_cons.2 ⟨hU1,(List.forall_mem_cons.2 ⟨hT3,List.forall_mem_cons.2 ⟨hU3,(fun _ h=>by simp at h)⟩⟩)⟩⟩) (by intro x hx;simp at hx;rcases hx with rfl | rfl | rfl | rfl | rfl<;>(intro j k n;rcases j with _ | _ | _ | _ | _ | j<;>simp)))
  have ha:=hR.act
  simp only [List.foldl_cons,List.foldl_nil,seti,set0,setS,vv0,vv1,vv2,vv3,hg4,hg5] at ha
  subst ha
  clear hR vv0 vv1 vv2 vv3 hg4 lg4 kg4 hg5 lg5 kg5 hne
  refine wpAny_of_late (S:=fun _=>True) (L:=[]) _ _ _ _ ?_
  refine wpLate_one (i:=6) (o:=⟨none,_,_,_,_,_⟩) (by kernel_rfl) rfl (fun K hK=>?_)
  obtain ⟨x0,x1,x2⟩:=X.out.c3 (i:=3) rfl
  obtain ⟨y0,y1,y2⟩:=X.out.f3 (i:=3) rfl
  have X:=Lib.hid (X.out.set3 (i:=3) rfl (.bool b1) (.slice A1 n1 c1) (.slice B1 m1 d1))
  go_simp
  refine hK.out _ _ (Or.inr fun _=>trivial) ?_
  clear hK K x0 x1 x2 y0 y1 y2
  obtain ⟨W6,hV⟩:=wexi X.out
  rw [←hV] at X ⊢
  clear hV
  try simp only [Act.put]
  refine wpLate_one (i:=7) (o:=⟨none,_,_,_,_,_⟩) (by kernel_rfl) rfl (fun K hK=>?_)
  obtain ⟨x0,x1,x2⟩:=X.out.c3 (i:=4) rfl
  obtain ⟨y0,y1,y2⟩:=X.out.f3 (i:=4) rfl
  have X:=Lib.hid (X.out.set3 (i:=4) rfl (.bool b1) (.slice A3 n3 c3) (.slice B3 m3 d3))
  go_simp
  refine hK.out _ _ (Or.inr fun _=>trivial) ?_
  clear hK K x0 x1 x2 y0 y1 y2
  obtain ⟨W7,hV⟩:=wexi X.out
  rw [←hV] at X ⊢
  clear hV
  try simp only [Act.put]
  refine wpLate_done (by kernel_rfl) ?_ _
  go_wp2_with fail
  go_meet
  exact ⟨_,_,_,_,_,_,_,_,_,_,_,_,_,_,rfl,rfl,X.out.pick [2,3,4] _ _ rfl (by decide) (fun _ h=>h)⟩
 obtain ⟨g5,g6,A1,n1,c1,B1,x1,d1,A3,n3,c3,B3,x3,d3,rfl,rfl,hX⟩:=hcut
 have X:=Lib.hid hX
 clear hX
 go_upto_region 2 with fail
 go_cut [7,8] (fun s7 s8 wx=>∃ A5 n5 c5 A6 n6 c6,s7=.slice A5 n5 c5∧s8=.slice A6 n6 c6∧Sb w [(w.heap.size+1+1,#[.bool false,.string ⟨#[]⟩,.bool false,.string ⟨#[]⟩],25),(g5,#[.bool b1,.slice A1 n1 c1,.slice B1 x1 d1],110),(g6,#[.bool b1,.slice A3 n3 c3,.slice B3 x3 d3],110)] [(A1,n1,c1,p.num.natAbs),(B1,x1,d1,p.den),(A3,n3,c3,q.num.natAbs),(B3,x3,d3,q.den),(A5,n5,c5,(p.num.natAbs*q.den)),(A6,n6,c6,(q.num.natAbs*p.den))] wx)
 case first =>
  refine wp_region_late (S:=fun w'=>(w'.cell? ⟨g5,0,none⟩=some (.bool b1)∧w'.cell? ⟨g5,1,none⟩=some (.slice A1 n1 c1)∧w'.cell? ⟨g5,2,none⟩=some (.slice B1 x1 d1))∧(w'.cell? ⟨g6,0,none⟩=some (.bool b1)∧w'.cell? ⟨g6,1,none⟩=some (.slice A3 n3 c3)∧w'.cell? ⟨g6,2,none⟩=some (.slice B3 x3 d3))) (L:=[]) (by kernel_rfl) ?_
  have X:=Lib.hid X.out.drew
  obtain ⟨V0,hV⟩:=wexi X.out
  rw [←hV] at X ⊢
  clear hV
  refine tk (i:=0) (oi:=⟨some 14,_,_,_,_,_⟩) (v:=_) rfl (by kernel_rfl) (fun _ _ _ h=>h) (⟨X.out.c3 (i:=1) rfl,X.out.c3 (i:=2) rfl⟩) (Or.inl ⟨by rfl,by intro w hSw;(try dsimp only at hSw);(first | (go_simp;done) | (go_simp;with_reducible rfl))⟩) ?_
  try simp only [Act.put,seti,set0,setS]
  refine tk (i:=1) (oi:=⟨some 15,_,_,_,_,_⟩) (v:=_) rfl (by kernel_rfl) (fun _ _ _ h=>h) (⟨X.out.c3 (i:=1) rfl,X.out.c3 (i:=2) rfl⟩) (Or.inl ⟨by rfl,by intro w hSw;(try dsimp only at hSw);(first | (go_simp;done) | (go_simp;with_reducible rfl))⟩) ?_
  try simp only [Act.put,seti,set0,setS]
  refine tk (i:=2) (oi:=⟨some 16,_,_,_,_,_⟩) (v:=_) rfl (by kernel_rfl) (fun _ _ _ h=>h) (⟨X.out.c3 (i:=1) rfl,X.out.c3 (i:=2) rfl⟩) (Or.inl ⟨by rfl,by intro w hSw;(try dsimp only at hSw);(first | (go_simp;done) | (go_simp;with_reducible rfl))⟩) ?_
  try simp only [Act.put,seti,set0,setS]
  refine tk (i:=3) (oi:=⟨some 17,_,_,_,_,_⟩) (v:=_) rfl (by kernel_rfl) (fun _ _ _ h=>h) (⟨X.out.c3 (i:=1) rfl,X.out.c3 (i:=2) rfl⟩) (Or.inl ⟨by rfl,by intro w hSw;(try dsimp only at hSw);(first | (go_simp;done) | (go_simp;with_reducible rfl))⟩) ?_
  try simp only [Act.put,seti,set0,setS]
  refine tk (i:=5) (oi:=⟨some 19,_,_,_,_,_⟩) (v:=_) rfl (by kernel_rfl) (fun _ _ _ h=>h) (⟨X.out.c3 (i:=1) rfl,X.out.c3 (i:=2) rfl⟩) (Or.inl ⟨by rfl,by intro w hSw;(try dsimp only at hSw);(first | (go_simp;done) | (go_simp;with_reducible rfl))⟩) ?_
  try simp only [Act.put,seti,set0,setS]
  refine tk (i:=6) (oi:=⟨some 20,_,_,_,_,_⟩) (v:=_) rfl (by kernel_rfl) (fun _ _ _ h=>h) (⟨X.out.c3 (i:=1) rfl,X.out.c3 (i:=2) rfl⟩) (Or.inl ⟨by rfl,by intro w hSw;(try dsimp only at hSw);(first | (go_simp;done) | (go_simp;with_reducible rfl))⟩) ?_
  try simp only [Act.put,seti,set0,setS]
  refine tk (i:=7) (oi:=⟨some 21,_,_,_,_,_⟩) (v:=_) rfl (by kernel_rfl) (fun _ _ _ h=>h) (⟨X.out.c3 (i:=1) rfl,X.out.c3 (i:=2) rfl⟩) (Or.inl ⟨by rfl,by intro w hSw;(try dsimp only at hSw);(first | (go_simp;done) | (go_simp;with_reducible rfl))⟩) ?_
  try simp only [Act.put,seti,set0,setS]
  refine tk (i:=8) (oi:=⟨some 22,_,_,_,_,_⟩) (v:=_) rfl (by kernel_rfl) (fun _ _ _ h=>h) (⟨X.out.c3 (i:=1) rfl,X.out.c3 (i:=2) rfl⟩) (Or.inl ⟨by rfl,by intro w hSw;(try dsimp only at hSw);(first | (go_simp;done) | (go_simp;with_reducible rfl))⟩) ?_
  try simp only [Act.put,seti,set0,setS]
  refine wpLate_one (i:=4) (o:=⟨some 18,_,_,_,_,_⟩) (by kernel_rfl) rfl (fun K hK=>?_)
  go_simp
  (go_at_call 122;refine (rtimes _ _ _ _ _ _ _ _ _ (by have h:=(X.out.rw (i:=0) rfl).ln;have h2:=HN0.out;omega) (by have h:=(X.out.rw (i:=3) rfl).ln;have h2:=HN3.out;omega) (X.out.rw (i:=0) rfl).dg (X.out.rw (i:=3) rfl).dg).mono ?_;rintro e u1 ⟨A1,n1,c1,rfl,ht9,hb9,hf9⟩;have X:=Lib.hid (X.out.row hb9 ht9 hf9);clear hb9 ht9 hf9)
  try go_wp2_with fail
  refine hK.out _ _ (Or.inr (fun _=>⟨X.out.c3 (i:=1) rfl,X.out.c3 (i:=2) rfl⟩)) ?_
  clear hK K
  try simp only [Act.put,seti,set0,setS]
  refine wpLate_one (i:=9) (o:=⟨some 23,_,_,_,_,_⟩) (by kernel_rfl) rfl (fun K hK=>?_)
  go_simp
  (go_at_call 122;refine (rtimes _ _ _ _ _ _ _ _ _ (by have h:=(X.out.rw (i:=2) rfl).ln;have h2:=HN2.out;omega) (by have h:=(X.out.rw (i:=1) rfl).ln;have h2:=HN1.out;omega) (X.out.rw (i:=2) rfl).dg (X.out.rw (i:=1) rfl).dg).mono ?_;rintro e u2 ⟨A2,n2,c2,rfl,ht9,hb9,hf9⟩;have X:=Lib.hid (X.out.row hb9 ht9 hf9);clear hb9 ht9 hf9)
  try go_wp2_with fail
  refine hK.out _ _ (Or.inr (fun _=>⟨X.out.c3 (i:=1) rfl,X.out.c3 (i:=2) rfl⟩)) ?_
  clear hK K
  try simp only [Act.put,seti,set0,setS]
  refine tk (i:=10) (oi:=⟨some 7,_,_,_,_,_⟩) (v:=_) rfl (by kernel_rfl) (fun _ _ _ h=>h) (⟨X.out.c3 (i:=1) rfl,X.out.c3 (i:=2) rfl⟩) (Or.inl ⟨by rfl,by intro w hSw;(try dsimp only at hSw);(first | (go_simp;done) | (go_simp;with_reducible rfl))⟩) ?_
  try simp only [Act.put,seti,set0,setS]
  refine tk (i:=11) (oi:=⟨some 8,_,_,_,_,_⟩) (v:=_) rfl (by kernel_rfl) (fun _ _ _ h=>h) (⟨X.out.c3 (i:=1) rfl,X.out.c3 (i:=2) rfl⟩) (Or.inl ⟨by rfl,by intro w hSw;(try dsimp only at hSw);(first | (go_simp;done) | (go_simp;with_reducible rfl))⟩) ?_
  try simp only [Act.put,seti,set0,setS]
  refine wpLate_done (by kernel_rfl) ?_ _
  go_wp2_with fail
  go_meet
  exact ⟨_,_,_,_,_,_,rfl,rfl,X.out⟩
 obtain ⟨A5,n5,c5,A6,n6,c6,rfl,rfl,hX⟩:=hcut
 have X:=Lib.hid hX
 clear hX
 obtain ⟨a0,a1,a2⟩:=X.out.c3 (i:=1) rfl
 obtain ⟨c0,c1,c2⟩:=X.out.c3 (i:=2) rfl
 go_wp2_with fail
 refine (rtimes _ _ _ _ _ _ _ _ _ (by have h:=(X.out.rw (i:=1) rfl).ln;have h2:=HN1.out;omega) (by have h:=(X.out.rw (i:=3) rfl).ln;have h2:=HN3.out;omega) (X.out.rw (i:=1) rfl).dg (X.out.rw (i:=3) rfl).dg).mono ?_
 rintro e u2 ⟨A7,n7,c7,rfl,ht9,hb9,hf9⟩
 have X:=Lib.hid (X.out.row hb9 ht9 hf9)
 clear hb9 ht9 hf9 a0 a1 a2 c0 c1 c2
 obtain ⟨a0,a1,a2⟩:=X.out.c3 (i:=1) rfl
 obtain ⟨c0,c1,c2⟩:=X.out.c3 (i:=2) rfl
 go_upto_region 5 with fail
 clear a0 a1 a2 c0 c1 c2
 refine wp_region_late (S:=fun w'=>(w'.cell? ⟨g5,0,none⟩=some (.bool b1)∧w'.cell? ⟨g5,1,none⟩=some (.slice A1 n1 c1)∧w'.cell? ⟨g5,2,none⟩=some (.slice B1 x1 d1))∧(w'.cell? ⟨g6,0,none⟩=some (.bool b1)∧w'.cell? ⟨g6,1,none⟩=some (.slice A3 n3 c3)∧w'.cell? ⟨g6,2,none⟩=some (.slice B3 x3 d3))) (L:=[]) (by kernel_rfl) ?_
 have X:=Lib.hid X.out.drew
 obtain ⟨V0,hV⟩:=wexi X.out
 rw [←hV] at X ⊢
 clear hV
 refine tk (i:=0) (oi:=⟨some 35,_,_,_,_,_⟩) (v:=_) rfl (by kernel_rfl) (fun _ _ _ h=>h) (⟨X.out.c3 (i:=1) rfl,X.out.c3 (i:=2) rfl⟩) (Or.inl ⟨by rfl,by intro w hSw;(try dsimp only at hSw);(first | (go_simp;done) | (go_simp;with_reducible rfl))⟩) ?_
 try simp only [Act.put,seti,set0,setS]
 refine tk (i:=1) (oi:=⟨some 36,_,_,_,_,_⟩) (v:=_) rfl (by kernel_rfl) (fun _ _ _ h=>h) (⟨X.out.c3 (i:=1) rfl,X.out.c3 (i:=2) rfl⟩) (Or.inl ⟨by rfl,by intro w hSw;(try dsimp only at hSw);(first | (go_simp;done) | (go_simp;with_reducible rfl))⟩) ?_
 try simp only [Act.put,seti,set0,setS]
 refine tk (i:=2) (oi:=⟨some 37,_,_,_,_,_⟩) (v:=_) rfl (by kernel_rfl) (fun _ _ _ h=>h) (⟨X.out.c3 (i:=1) rfl,X.out.c3 (i:=2) rfl⟩) (Or.inl ⟨by rfl,by intro w hSw;(try dsimp only at hSw);(first | (go_simp;done) | (go_simp;with_reducible rfl))⟩) ?_
 try simp only [Act.put,seti,set0,setS]
 refine tk (i:=3) (oi:=⟨some 38,_,_,_,_,_⟩) (v:=_) rfl (by kernel_rfl) (fun _ _ _ h=>h) (⟨X.out.c3 (i:=1) rfl,X.out.c3 (i:=2) rfl⟩) (Or.inl ⟨by rfl,by intro w hSw;(try dsimp only at hSw);(first | (go_simp;done) | (go_simp;with_reducible rfl))⟩) ?_
 try simp only [Act.put,seti,set0,setS]
 refine tk (i:=5) (oi:=⟨some 40,_,_,_,_,_⟩) (v:=_) rfl (by kernel_rfl) (fun _ _ _ h=>h) (⟨X.out.c3 (i:=1) rfl,X.out.c3 (i:=2) rfl⟩) (Or.inl ⟨by rfl,by intro w hSw;(try dsimp only at hSw);(first | (go_simp;done) | (go_simp;with_reducible rfl))⟩) ?_
 try simp only [Act.put,seti,set0,setS]
 refine wpLate_one (i:=4) (o:=⟨some 39,_,_,_,_,_⟩) (by kernel_rfl) rfl (fun K hK=>?_)
 go_simp
 (go_at_call 134;refine (rplus _ _ _ _ _ _ _ _ _ (by have h:=(X.out.rw (i:=4) rfl).ln;have h2:=HN4.out;omega) (by have h:=(X.out.rw (i:=5) rfl).ln;have h2:=HN5.out;omega) (X.out.rw (i:=4) rfl).dg (X.out.rw (i:=5) rfl).dg).mono ?_;rintro e u1 ⟨A1,n1,c1,rfl,ht9,hb9,hf9⟩;have X:=Lib.hid (X.out.row hb9 ht9 hf9);clear hb9 ht9 hf9)
 try go_wp2_with fail
 refine hK.out _ _ (Or.inr (fun _=>⟨X.out.c3 (i:=1) rfl,X.out.c3 (i:=2) rfl⟩)) ?_
 clear hK K
 try simp only [Act.put,seti,set0,setS]
 refine tk (i:=6) (oi:=⟨some 41,_,_,_,_,_⟩) (v:=_) rfl (by kernel_rfl) (fun _ _ _ h=>h) (⟨X.out.c3 (i:=1) rfl,X.out.c3 (i:=2) rfl⟩) (Or.inl ⟨by rfl,by intro w hSw;(try dsimp only at hSw);(first | (go_simp;done) | (go_simp;with_reducible rfl))⟩) ?_
 try simp only [Act.put,seti,set0,setS]
 refine wpLate_one (i:=7) (o:=⟨some 42,_,_,_,_,_⟩) (by kernel_rfl) rfl (fun K hK=>?_)
 go_simp
 (go_at_call 123;refine (HCN.out _ _ _ _ _ _ _ (X.out.rw (i:=7) rfl) (X.out.rw (i:=6) rfl)).mono ?_;rintro e u2 ⟨rfl,hb9⟩;have X:=Lib.hid (X.out.next hb9);clear hb9)
 try go_wp2_with fail
 refine hK.out _ _ (Or.inr (fun _=>⟨X.out.c3 (i:=1) rfl,X.out.c3 (i:=2) rfl⟩)) ?_
 clear hK K
 try simp only [Act.put,seti,set0,setS]
 refine wpLate_one (i:=8) (o:=⟨none,_,_,_,_,_⟩) (by kernel_rfl) rfl (fun K hK=>?_)
 obtain ⟨x0,x1,x2,x3⟩:=X.out.c4 (i:=0) rfl
 obtain ⟨y0,y1,y2,y3⟩:=X.out.f4 (i:=0) rfl
 have X:=Lib.hid (X.out.set4 (i:=0) rfl (.bool b3) (.string m3) (.bool false) (.string k3))
 go_simp
 refine hK.out _ _ (Or.inr (fun _=>⟨X.out.c3 (i:=1) rfl,X.out.c3 (i:=2) rfl⟩)) ?_
 clear hK K x0 x1 x2 x3 y0 y1 y2 y3
 try simp only [Act.put,seti,set0,setS]
 obtain ⟨W3,hV⟩:=wexi X.out
 rw [←hV] at X ⊢
 clear hV
 refine wpLate_done (by kernel_rfl) ?_ _
 go_wp2
 obtain ⟨p0,p1,p2,p3⟩:=X.out.c4 (i:=0) rfl
 exact bodyPost_ret (v:=.agg #[.bool b3,.string m3,.bool false,.string k3]) (by simp [results,Tryz.results77,go_sem,p0,p1,p2,p3]) rfl ⟨rfl,X.out.bel⟩

set_option maxHeartbeats 32000000 in
set_option maxRecDepth 100000 in
theorem rAdd_ge {p q:Rat} {b1 b3:Bool} {m1 m2 m3 k1 k2 k3:ByteArray} (hp:Rq p b1 m1 k1) (hq:Rq q (!b1) m2 k2) (hr':Rq (mkRat (sgn b1 ((p.num.natAbs*q.den)-(q.num.natAbs*p.den))) (p.den*q.den)) b3 m3 k3) (hle:(q.num.natAbs*p.den)≤(p.num.natAbs*q.den)) (s1:m1.size≤10000) (s2:m2.size≤10000) (s3:(mag p.den).size≤10000) (s4:(mag q.den).size≤10000) (w:World) :
  Calls Tryz.prog 77 #[.agg #[.bool b1,.string m1,.bool false,.string k1],.agg #[.bool (!b1),.string m2,.bool false,.string k2]] w (RetB w (.agg #[.bool b3,.string m3,.bool false,.string k3])):=by
 have ks:∀ {x:Rat} {b:Bool} {m k:ByteArray},Rq x b m k→(mag x.den).size≤10000→k.size≤10000:=fun {x b m k} h hs=>by
  by_cases hd:x.den=1
  · rw [h.den1 hd];exact Nat.zero_le _
  · rw [h.den2 hd];exact hs
 have HF1:=Lib.hid (fun V=>rof2 hp (by omega) (by have:=ks hp s3;omega) V)
 have HF2:=Lib.hid (fun V=>rof2 hq (by omega) (by have:=ks hq s4;omega) V)
 have n0:nd p.num.natAbs≤10000:=by unfold nd;rw [←hp.mag.2];exact s1
 have n1:nd p.den≤10000:=s3
 have n2:nd q.num.natAbs≤10000:=by unfold nd;rw [←hq.mag.2];exact s2
 have n3:nd q.den≤10000:=s4
 have n4:nd (p.num.natAbs*q.den)≤20000:=by have:=nd_mul p.num.natAbs q.den;omega
 have n5:nd (q.num.natAbs*p.den)≤20000:=by have:=nd_mul q.num.natAbs p.den;omega
 have n6:nd (p.den*q.den)≤20000:=by have:=nd_mul p.den q.den;omega
 have n7:nd ((p.num.natAbs*q.den)-(q.num.natAbs*p.den))≤30000:=by have:=nd_mono (Nat.sub_le (p.num.natAbs*q.den) (q.num.natAbs*p.den));omega
 have hcn:∀ (A B:Option Addr) (n m c d:Nat) (V:World),Tr V A n c ((p.num.natAbs*q.den)-(q.num.natAbs*p.den))→Tr V B m d (p.den*q.den)→Calls Tryz.prog 123 #[.agg #[.bool b1,.slice A n c,.slice B m d]] V (RetB V (.agg #[.bool b3,.string m3,.bool false,.string k3])):=by
  intro A B n m c d V hA hB
  refine (rcanonical b1 A B n m c d _ _ V (by have:=hA.ln;omega) (by have:=hB.ln;omega) hA hB (Nat.mul_pos p.den_pos q.den_pos)).mono ?_
  rintro e w3 ⟨b4,m4,k4,rfl,hq4,hb3⟩
  obtain ⟨rfl,rfl,rfl⟩:=hr'.inj hq4
  exact ⟨rfl,hb3⟩
 have HN0:=Lib.hid n0
 have HN1:=Lib.hid n1
 have HN2:=Lib.hid n2
 have HN3:=Lib.hid n3
 have HN4:=Lib.hid n4
 have HN5:=Lib.hid n5
 have HLE:=Lib.hid (hle)
 have HCN:=Lib.hid hcn
 obtain ⟨o,ho,hge⟩:=ord_ge hle
 have hcm:∀ (A B:Option Addr) (n m c d:Nat) (V:World),n≤1000000000→m≤1000000000→Tr V A n c (p.num.natAbs*q.den)→Tr V B m d (q.num.natAbs*p.den)→Calls Tryz.prog 121 #[.slice A n c,.slice B m d] V (RetDw V (.int .i64 o)):=by
  intro A B n m c d V h1 h2 h3 h4
  rw [←ho]
  exact rcompare_any A B n m c d _ _ V h1 h2 h3 h4
 have HCM:=Lib.hid hcm
 have hge2:¬o<0:=by omega
 clear ho hcm
 have X:=Lib.hid ((((Sb.start w).new #[.bool b1,.string m1,.bool false,.string k1] 25).new #[.bool (!b1),.string m2,.bool false,.string k2] 25).new #[.bool false,.string ⟨#[]⟩,.bool false,.string ⟨#[]⟩] 25)
 have X:=Lib.hid (X.out.pick [0,1,2] [(w.heap.size,#[.bool b1,.string m1,.bool false,.string k1],25),(w.heap.size+1,#[.bool (!b1),.string m2,.bool false,.string k2],25),(w.heap.size+1+1,#[.bool false,.string ⟨#[]⟩,.bool false,.string ⟨#[]⟩],25)] [] (by simp) (by decide) (by simp))
 clear hp hq hr' hcn n0 n1 n2 n3 n4 n5 n6 n7 s1 s2 s3 s4 ks hle
 go_enter Tryz.func77,Tryz.ntmps77
 go_upto_region 1 with fail
 go_cut [5,6] (fun s5 s6 wx=>∃ g5 g6 A1 n1 c1 B1 x1 d1 A3 n3 c3 B3 x3 d3,s5=.pointer (some ⟨g5,0,none⟩)∧s6=.pointer (some ⟨g6,0,none⟩)∧Sb w [(w.heap.size+1+1,#[.bool false,.string ⟨#[]⟩,.bool false,.string ⟨#[]⟩],25),(g5,#[.bool b1,.slice A1 n1 c1,.slice B1 x1 d1],110),(g6,#[.bool (!b1),.slice A3 n3 c3,.slice B3 x3 d3],110)] [(A1,n1,c1,p.num.natAbs),(B1,x1,d1,p.den),(A3,n3,c3,q.num.natAbs),(B3,x3,d3,q.den)] wx)
 case first =>
  refine wp_region_any (by kernel_rfl) ?_
  have X:=Lib.hid X.out.drew
  obtain ⟨W0,hV⟩:=wexi X.out
  rw [show ∀ v:World,{ v with drawn:=v.drawn+1 }=v.drew from fun _=>rfl,←hV]
  rw [←hV] at X
  clear hV
  refine rg_run (ef:=[.val (.agg #[.bool b1,.string m1,.bool false,.string k1]),.rel (FracP b1 p.num.natAbs p.den),.val (.agg #[.bool (!b1),.string m2,.bool false,.string k2]),.rel (FracP (!b1) q.num.natAbs q.den),.new #[.bool false,.slice none 0 0,.slice none 0 0] 110,.new #[.bool false,.slice none 0 0,.slice none 0 0] 110]) (ds:=[10,11,12,13,5,6]) (by kernel_rfl) (stays_of (List.forall_mem_cons.2 ⟨trivial,(List.forall_mem_cons.2 ⟨fine_frac _ _ _,(List.forall_mem_cons.2 ⟨trivial,(List.forall_mem_cons.2 ⟨fine_frac _ _ _,(List.forall_mem_cons.2 ⟨trivial,(List.forall_mem_cons.2 ⟨trivial,(fun _ h=>by simp at h)⟩)⟩)⟩)⟩)⟩)⟩)) (by decide) rfl (by intro d hd;simp at hd ⊢;omega) (fun i d o hd ho listed a w1 hR hdep K hK=>?_) 2 (fun a w1 hR=>?_)
  · have X:=Lib.hid (X.out.next hR.bel)
    have HKt:=Lib.hid hK
    have HDp:=Lib.hid hdep
    have sl2:a.tmps.getD 2 undef=.pointer (some ⟨w.heap.size,0,none⟩):=hR.keep 2 (by decide)
    have sl3:a.tmps.getD 3 undef=.pointer (some ⟨w.heap.size+1,0,none⟩):=hR.keep 3 (by decide)
    have HRg:=Lib.hid hR
    clear hK hdep hR
    rcases i with _ | _ | _ | _ | _ | _ | i
    · cases hd
      cases ho
      obtain ⟨x00,x01,x02,x03⟩:=X.out.c4 (i:=0) rfl
      obtain ⟨x10,x11,x12,x13⟩:=X.out.c4 (i:=1) rfl
      go_simp
      exact HKt.out _ _ (Or.inl ⟨rfl,Below.refl _ _⟩)
    · cases hd
      cases ho
      have dd0:a.tmps.getD 10 undef=.agg #[.bool b1,.string m1,.bool false,.string k1]:=HRg.out.val 0 _ (HDp.out 0 (by decide)) rfl
      go_simp
      (go_at_call 119;refine (HF1.out _).mono ?_;rintro e u ⟨A9,n9,c9,B9,m9,d9,rfl,hT9,hU9,hb9,_,_⟩)
      try go_wp2_with fail
      exact HKt.out _ _ (Or.inr (Or.inr ⟨_,rfl,⟨A9,n9,c9,B9,m9,d9,rfl,hT9,hU9⟩,hb9⟩))
    · cases hd
      cases ho
      obtain ⟨x00,x01,x02,x03⟩:=X.out.c4 (i:=0) rfl
      obtain ⟨x10,x11,x12,x13⟩:=X.out.c4 (i:=1) rfl
      go_simp
      exact HKt.out _ _ (Or.inl ⟨rfl,Below.refl _ _⟩)
    · cases hd
      cases ho
      have dd2:a.tmps.getD 12 undef=.agg #[.bool (!b1),.string m2,.bool false,.string k2]:=HRg.out.val 2 _ (HDp.out 2 (by decide)) rfl
      go_simp
      (go_at_call 119;refine (HF2.out _).mono ?_;rintro e u ⟨A9,n9,c9,B9,m9,d9,rfl,hT9,hU9,hb9,_,_⟩)
      try go_wp2_with fail
      exact HKt.out _ _ (Or.inr (Or.inr ⟨_,rfl,⟨A9,n9,c9,B9,m9,d9,rfl,hT9,hU9⟩,hb9⟩))
    · cases hd
      cases ho
      go_simp
      exact HKt.out _ _ (Or.inr (Or.inl ⟨_,_,rfl,rfl,rfl⟩))
    · cases hd
      cases ho
      go_simp
      exact HKt.out _ _ (Or.inr (Or.inl ⟨_,_,rfl,rfl,rfl⟩))
    · cases hd
  obtain ⟨g4,hg4,lg4,kg4⟩:=hR.new 4 _ _ (by rfl) rfl
  obtain ⟨g5,hg5,lg5,kg5⟩:=hR.new 5 _ _ (by rfl) rfl
  have vv0:a.tmps.getD 10 undef=.agg #[.bool b1,.string m1,.bool false,.string k1]:=hR.val 0 _ (by rfl) rfl
  obtain ⟨A1,n1,c1,B1,m1,d1,vv1,hT1,hU1⟩:=hR.rel 1 _ (by rfl) rfl
  replace vv1:a.tmps.getD 11 undef=.agg #[.bool b1,.slice A1 n1 c1,.slice B1 m1 d1]:=vv1
  have vv2:a.tmps.getD 12 undef=.agg #[.bool (!b1),.string m2,.bool false,.string k2]:=hR.val 2 _ (by rfl) rfl
  obtain ⟨A3,n3,c3,B3,m3,d3,vv3,hT3,hU3⟩:=hR.rel 3 _ (by rfl) rfl
  replace vv3:a.tmps.getD 13 undef=.agg #[.bool (!b1),.slice A3 n3 c3,.slice B3 m3 d3]:=vv3
  replace hg4:a.tmps.getD 5 undef=.pointer (some ⟨g4,0,none⟩):=hg4
  replace hg5:a.tmps.getD 6 undef=.pointer (some ⟨g5,0,none⟩):=hg5
  have hne:g4≠g5:=fun e=>hR.ne 4 5 _ _ _ _ g4 (by decide) (by rfl) (by rfl) rfl rfl hg4 (by rw [e];exact hg5)
  have X:=Lib.hid (X.out.add2 hR.bel lg4 kg4 lg5 kg5 hne)
  have X:=Lib.hid (X.out.rows [(A1,n1,c1,p.num.natAbs),(B1,m1,d1,p.den),(A3,n3,c3,q.num.natAbs),(B3,m3,d3,q.den)] (List.forall_mem_cons.2 ⟨hT1,List.forall_mem_cons.2 ⟨hU1,(List.forall_mem_cons.2 ⟨hT3,List.forall_mem_cons.2 ⟨hU3,(fun _ h=>by simp at h)⟩⟩)⟩⟩) (by intro x hx;simp at hx;rcases hx with rfl | rfl | rfl | rfl | rfl<;>(intro j k n;rcases j with _ | _ | _ | _ | _ | j<;>simp)))
  have ha:=hR.act
  simp only [List.foldl_cons,List.foldl_nil,seti,set0,setS,vv0,vv1,vv2,vv3,hg4,hg5] at ha
  subst ha
  clear hR vv0 vv1 vv2 vv3 hg4 lg4 kg4 hg5 lg5 kg5 hne
  refine wpAny_of_late (S:=fun _=>True) (L:=[]) _ _ _ _ ?_
  refine wpLate_one (i:=6) (o:=⟨none,_,_,_,_,_⟩) (by kernel_rfl) rfl (fun K hK=>?_)
  obtain ⟨x0,x1,x2⟩:=X.out.c3 (i:=3) rfl
  obtain ⟨y0,y1,y2⟩:=X.out.f3 (i:=3) rfl
  have X:=Lib.hid (X.out.set3 (i:=3) rfl (.bool b1) (.slice A1 n1 c1) (.slice B1 m1 d1))
  go_simp
  refine hK.out _ _ (Or.inr fun _=>trivial) ?_
  clear hK K x0 x1 x2 y0 y1 y2
  obtain ⟨W6,hV⟩:=wexi X.out
  rw [←hV] at X ⊢
  clear hV
  try simp only [Act.put]
  refine wpLate_one (i:=7) (o:=⟨none,_,_,_,_,_⟩) (by kernel_rfl) rfl (fun K hK=>?_)
  obtain ⟨x0,x1,x2⟩:=X.out.c3 (i:=4) rfl
  obtain ⟨y0,y1,y2⟩:=X.out.f3 (i:=4) rfl
  have X:=Lib.hid (X.out.set3 (i:=4) rfl (.bool (!b1)) (.slice A3 n3 c3) (.slice B3 m3 d3))
  go_simp
  refine hK.out _ _ (Or.inr fun _=>trivial) ?_
  clear hK K x0 x1 x2 y0 y1 y2
  obtain ⟨W7,hV⟩:=wexi X.out
  rw [←hV] at X ⊢
  clear hV
  try simp only [Act.put]
  refine wpLate_done (by kernel_rfl) ?_ _
  go_wp2_with fail
  go_meet
  exact ⟨_,_,_,_,_,_,_,_,_,_,_,_,_,_,rfl,rfl,X.out.pick [2,3,4] _ _ rfl (by decide) (fun _ h=>h)⟩
 obtain ⟨g5,g6,A1,n1,c1,B1,x1,d1,A3,n3,c3,B3,x3,d3,rfl,rfl,hX⟩:=hcut
 have X:=Lib.hid hX
 clear hX
 go_upto_region 2 with fail
 go_cut [7,8] (fun s7 s8 wx=>∃ A5 n5 c5 A6 n6 c6,s7=.slice A5 n5 c5∧s8=.slice A6 n6 c6∧Sb w [(w.heap.size+1+1,#[.bool false,.string ⟨#[]⟩,.bool false,.string ⟨#[]⟩],25),(g5,#[.bool b1,.slice A1 n1 c1,.slice B1 x1 d1],110),(g6,#[.bool (!b1),.slice A3 n3 c3,.slice B3 x3 d3],110)] [(A1,n1,c1,p.num.natAbs),(B1,x1,d1,p.den),(A3,n3,c3,q.num.natAbs),(B3,x3,d3,q.den),(A5,n5,c5,(p.num.natAbs*q.den)),(A6,n6,c6,(q.num.natAbs*p.den))] wx)
 case first =>
  refine wp_region_late (S:=fun w'=>(w'.cell? ⟨g5,0,none⟩=some (.bool b1)∧w'.cell? ⟨g5,1,none⟩=some (.slice A1 n1 c1)∧w'.cell? ⟨g5,2,none⟩=some (.slice B1 x1 d1))∧(w'.cell? ⟨g6,0,none⟩=some (.bool (!b1))∧w'.cell? ⟨g6,1,none⟩=some (.slice A3 n3 c3)∧w'.cell? ⟨g6,2,none⟩=some (.slice B3 x3 d3))) (L:=[]) (by kernel_rfl) ?_
  have X:=Lib.hid X.out.drew
  obtain ⟨V0,hV⟩:=wexi X.out
  rw [←hV] at X ⊢
  clear hV
  refine tk (i:=0) (oi:=⟨some 14,_,_,_,_,_⟩) (v:=_) rfl (by kernel_rfl) (fun _ _ _ h=>h) (⟨X.out.c3 (i:=1) rfl,X.out.c3 (i:=2) rfl⟩) (Or.inl ⟨by rfl,by intro w hSw;(try dsimp only at hSw);(first | (go_simp;done) | (go_simp;with_reducible rfl))⟩) ?_
  try simp only [Act.put,seti,set0,setS]
  refine tk (i:=1) (oi:=⟨some 15,_,_,_,_,_⟩) (v:=_) rfl (by kernel_rfl) (fun _ _ _ h=>h) (⟨X.out.c3 (i:=1) rfl,X.out.c3 (i:=2) rfl⟩) (Or.inl ⟨by rfl,by intro w hSw;(try dsimp only at hSw);(first | (go_simp;done) | (go_simp;with_reducible rfl))⟩) ?_
  try simp only [Act.put,seti,set0,setS]
  refine tk (i:=2) (oi:=⟨some 16,_,_,_,_,_⟩) (v:=_) rfl (by kernel_rfl) (fun _ _ _ h=>h) (⟨X.out.c3 (i:=1) rfl,X.out.c3 (i:=2) rfl⟩) (Or.inl ⟨by rfl,by intro w hSw;(try dsimp only at hSw);(first | (go_simp;done) | (go_simp;with_reducible rfl))⟩) ?_
  try simp only [Act.put,seti,set0,setS]
  refine tk (i:=3) (oi:=⟨some 17,_,_,_,_,_⟩) (v:=_) rfl (by kernel_rfl) (fun _ _ _ h=>h) (⟨X.out.c3 (i:=1) rfl,X.out.c3 (i:=2) rfl⟩) (Or.inl ⟨by rfl,by intro w hSw;(try dsimp only at hSw);(first | (go_simp;done) | (go_simp;with_reducible rfl))⟩) ?_
  try simp only [Act.put,seti,set0,setS]
  refine tk (i:=5) (oi:=⟨some 19,_,_,_,_,_⟩) (v:=_) rfl (by kernel_rfl) (fun _ _ _ h=>h) (⟨X.out.c3 (i:=1) rfl,X.out.c3 (i:=2) rfl⟩) (Or.inl ⟨by rfl,by intro w hSw;(try dsimp only at hSw);(first | (go_simp;done) | (go_simp;with_reducible rfl))⟩) ?_
  try simp only [Act.put,seti,set0,setS]
  refine tk (i:=6) (oi:=⟨some 20,_,_,_,_,_⟩) (v:=_) rfl (by kernel_rfl) (fun _ _ _ h=>h) (⟨X.out.c3 (i:=1) rfl,X.out.c3 (i:=2) rfl⟩) (Or.inl ⟨by rfl,by intro w hSw;(try dsimp only at hSw);(first | (go_simp;done) | (go_simp;with_reducible rfl))⟩) ?_
  try simp only [Act.put,seti,set0,setS]
  refine tk (i:=7) (oi:=⟨some 21,_,_,_,_,_⟩) (v:=_) rfl (by kernel_rfl) (fun _ _ _ h=>h) (⟨X.out.c3 (i:=1) rfl,X.out.c3 (i:=2) rfl⟩) (Or.inl ⟨by rfl,by intro w hSw;(try dsimp only at hSw);(first | (go_simp;done) | (go_simp;with_reducible rfl))⟩) ?_
  try simp only [Act.put,seti,set0,setS]
  refine tk (i:=8) (oi:=⟨some 22,_,_,_,_,_⟩) (v:=_) rfl (by kernel_rfl) (fun _ _ _ h=>h) (⟨X.out.c3 (i:=1) rfl,X.out.c3 (i:=2) rfl⟩) (Or.inl ⟨by rfl,by intro w hSw;(try dsimp only at hSw);(first | (go_simp;done) | (go_simp;with_reducible rfl))⟩) ?_
  try simp only [Act.put,seti,set0,setS]
  refine wpLate_one (i:=4) (o:=⟨some 18,_,_,_,_,_⟩) (by kernel_rfl) rfl (fun K hK=>?_)
  go_simp
  (go_at_call 122;refine (rtimes _ _ _ _ _ _ _ _ _ (by have h:=(X.out.rw (i:=0) rfl).ln;have h2:=HN0.out;omega) (by have h:=(X.out.rw (i:=3) rfl).ln;have h2:=HN3.out;omega) (X.out.rw (i:=0) rfl).dg (X.out.rw (i:=3) rfl).dg).mono ?_;rintro e u1 ⟨A1,n1,c1,rfl,ht9,hb9,hf9⟩;have X:=Lib.hid (X.out.row hb9 ht9 hf9);clear hb9 ht9 hf9)
  try go_wp2_with fail
  refine hK.out _ _ (Or.inr (fun _=>⟨X.out.c3 (i:=1) rfl,X.out.c3 (i:=2) rfl⟩)) ?_
  clear hK K
  try simp only [Act.put,seti,set0,setS]
  refine wpLate_one (i:=9) (o:=⟨some 23,_,_,_,_,_⟩) (by kernel_rfl) rfl (fun K hK=>?_)
  go_simp
  (go_at_call 122;refine (rtimes _ _ _ _ _ _ _ _ _ (by have h:=(X.out.rw (i:=2) rfl).ln;have h2:=HN2.out;omega) (by have h:=(X.out.rw (i:=1) rfl).ln;have h2:=HN1.out;omega) (X.out.rw (i:=2) rfl).dg (X.out.rw (i:=1) rfl).dg).mono ?_;rintro e u2 ⟨A2,n2,c2,rfl,ht9,hb9,hf9⟩;have X:=Lib.hid (X.out.row hb9 ht9 hf9);clear hb9 ht9 hf9)
  try go_wp2_with fail
  refine hK.out _ _ (Or.inr (fun _=>⟨X.out.c3 (i:=1) rfl,X.out.c3 (i:=2) rfl⟩)) ?_
  clear hK K
  try simp only [Act.put,seti,set0,setS]
  refine tk (i:=10) (oi:=⟨some 7,_,_,_,_,_⟩) (v:=_) rfl (by kernel_rfl) (fun _ _ _ h=>h) (⟨X.out.c3 (i:=1) rfl,X.out.c3 (i:=2) rfl⟩) (Or.inl ⟨by rfl,by intro w hSw;(try dsimp only at hSw);(first | (go_simp;done) | (go_simp;with_reducible rfl))⟩) ?_
  try simp only [Act.put,seti,set0,setS]
  refine tk (i:=11) (oi:=⟨some 8,_,_,_,_,_⟩) (v:=_) rfl (by kernel_rfl) (fun _ _ _ h=>h) (⟨X.out.c3 (i:=1) rfl,X.out.c3 (i:=2) rfl⟩) (Or.inl ⟨by rfl,by intro w hSw;(try dsimp only at hSw);(first | (go_simp;done) | (go_simp;with_reducible rfl))⟩) ?_
  try simp only [Act.put,seti,set0,setS]
  refine wpLate_done (by kernel_rfl) ?_ _
  go_wp2_with fail
  go_meet
  exact ⟨_,_,_,_,_,_,rfl,rfl,X.out⟩
 obtain ⟨A5,n5,c5,A6,n6,c6,rfl,rfl,hX⟩:=hcut
 have X:=Lib.hid hX
 clear hX
 obtain ⟨a0,a1,a2⟩:=X.out.c3 (i:=1) rfl
 obtain ⟨c0,c1,c2⟩:=X.out.c3 (i:=2) rfl
 go_wp2_with fail
 refine (rtimes _ _ _ _ _ _ _ _ _ (by have h:=(X.out.rw (i:=1) rfl).ln;have h2:=HN1.out;omega) (by have h:=(X.out.rw (i:=3) rfl).ln;have h2:=HN3.out;omega) (X.out.rw (i:=1) rfl).dg (X.out.rw (i:=3) rfl).dg).mono ?_
 rintro e u2 ⟨A7,n7,c7,rfl,ht9,hb9,hf9⟩
 have X:=Lib.hid (X.out.row hb9 ht9 hf9)
 clear hb9 ht9 hf9 a0 a1 a2 c0 c1 c2
 obtain ⟨a0,a1,a2⟩:=X.out.c3 (i:=1) rfl
 obtain ⟨c0,c1,c2⟩:=X.out.c3 (i:=2) rfl
 go_wp2_with fail
 refine (HCM.out _ _ _ _ _ _ _ (by have h:=(X.out.rw (i:=4) rfl).ln;have h2:=HN4.out;omega) (by have h:=(X.out.rw (i:=5) rfl).ln;have h2:=HN5.out;omega) (X.out.rw (i:=4) rfl) (X.out.rw (i:=5) rfl)).mono ?_
 rintro e u5 ⟨rfl,nn,rfl⟩
 have X:=Lib.hid (X.out.next (below_draws (Below.refl _ _) nn))
 obtain ⟨u6,hV⟩:=wexi X.out
 rw [←hV] at X ⊢
 clear hV a0 a1 a2 c0 c1 c2
 go_upto_region 7 with fail
 refine wp_region_late (S:=fun w'=>(w'.cell? ⟨g5,0,none⟩=some (.bool b1)∧w'.cell? ⟨g5,1,none⟩=some (.slice A1 n1 c1)∧w'.cell? ⟨g5,2,none⟩=some (.slice B1 x1 d1))∧(w'.cell? ⟨g6,0,none⟩=some (.bool (!b1))∧w'.cell? ⟨g6,1,none⟩=some (.slice A3 n3 c3)∧w'.cell? ⟨g6,2,none⟩=some (.slice B3 x3 d3))) (L:=[]) (by kernel_rfl) ?_
 have X:=Lib.hid X.out.drew
 obtain ⟨V0,hV⟩:=wexi X.out
 rw [←hV] at X ⊢
 clear hV
 refine tk (i:=0) (oi:=⟨some 48,_,_,_,_,_⟩) (v:=_) rfl (by kernel_rfl) (fun _ _ _ h=>h) (⟨X.out.c3 (i:=1) rfl,X.out.c3 (i:=2) rfl⟩) (Or.inl ⟨by rfl,by intro w hSw;(try dsimp only at hSw);(first | (go_simp;done) | (go_simp;with_reducible rfl))⟩) ?_
 try simp only [Act.put,seti,set0,setS]
 refine tk (i:=1) (oi:=⟨some 49,_,_,_,_,_⟩) (v:=_) rfl (by kernel_rfl) (fun _ _ _ h=>h) (⟨X.out.c3 (i:=1) rfl,X.out.c3 (i:=2) rfl⟩) (Or.inl ⟨by rfl,by intro w hSw;(try dsimp only at hSw);(first | (go_simp;done) | (go_simp;with_reducible rfl))⟩) ?_
 try simp only [Act.put,seti,set0,setS]
 refine tk (i:=2) (oi:=⟨some 50,_,_,_,_,_⟩) (v:=_) rfl (by kernel_rfl) (fun _ _ _ h=>h) (⟨X.out.c3 (i:=1) rfl,X.out.c3 (i:=2) rfl⟩) (Or.inl ⟨by rfl,by intro w hSw;(try dsimp only at hSw);(first | (go_simp;done) | (go_simp;with_reducible rfl))⟩) ?_
 try simp only [Act.put,seti,set0,setS]
 refine tk (i:=3) (oi:=⟨some 51,_,_,_,_,_⟩) (v:=_) rfl (by kernel_rfl) (fun _ _ _ h=>h) (⟨X.out.c3 (i:=1) rfl,X.out.c3 (i:=2) rfl⟩) (Or.inl ⟨by rfl,by intro w hSw;(try dsimp only at hSw);(first | (go_simp;done) | (go_simp;with_reducible rfl))⟩) ?_
 try simp only [Act.put,seti,set0,setS]
 refine tk (i:=5) (oi:=⟨some 53,_,_,_,_,_⟩) (v:=_) rfl (by kernel_rfl) (fun _ _ _ h=>h) (⟨X.out.c3 (i:=1) rfl,X.out.c3 (i:=2) rfl⟩) (Or.inl ⟨by rfl,by intro w hSw;(try dsimp only at hSw);(first | (go_simp;done) | (go_simp;with_reducible rfl))⟩) ?_
 try simp only [Act.put,seti,set0,setS]
 refine wpLate_one (i:=4) (o:=⟨some 52,_,_,_,_,_⟩) (by kernel_rfl) rfl (fun K hK=>?_)
 go_simp
 (go_at_call 135;refine (rminus _ _ _ _ _ _ _ _ _ (by have h:=(X.out.rw (i:=4) rfl).ln;have h2:=HN4.out;omega) (by have h:=(X.out.rw (i:=5) rfl).ln;have h2:=HN5.out;omega) (X.out.rw (i:=4) rfl).dg (X.out.rw (i:=5) rfl).dg HLE.out).mono ?_;rintro e u1 ⟨A1,n1,c1,rfl,ht9,hb9,hf9⟩;have X:=Lib.hid (X.out.row hb9 ht9 hf9);clear hb9 ht9 hf9)
 try go_wp2_with fail
 refine hK.out _ _ (Or.inr (fun _=>⟨X.out.c3 (i:=1) rfl,X.out.c3 (i:=2) rfl⟩)) ?_
 clear hK K
 try simp only [Act.put,seti,set0,setS]
 refine tk (i:=6) (oi:=⟨some 54,_,_,_,_,_⟩) (v:=_) rfl (by kernel_rfl) (fun _ _ _ h=>h) (⟨X.out.c3 (i:=1) rfl,X.out.c3 (i:=2) rfl⟩) (Or.inl ⟨by rfl,by intro w hSw;(try dsimp only at hSw);(first | (go_simp;done) | (go_simp;with_reducible rfl))⟩) ?_
 try simp only [Act.put,seti,set0,setS]
 refine wpLate_one (i:=7) (o:=⟨some 55,_,_,_,_,_⟩) (by kernel_rfl) rfl (fun K hK=>?_)
 go_simp
 (go_at_call 123;refine (HCN.out _ _ _ _ _ _ _ (X.out.rw (i:=7) rfl) (X.out.rw (i:=6) rfl)).mono ?_;rintro e u2 ⟨rfl,hb9⟩;have X:=Lib.hid (X.out.next hb9);clear hb9)
 try go_wp2_with fail
 refine hK.out _ _ (Or.inr (fun _=>⟨X.out.c3 (i:=1) rfl,X.out.c3 (i:=2) rfl⟩)) ?_
 clear hK K
 try simp only [Act.put,seti,set0,setS]
 refine wpLate_one (i:=8) (o:=⟨none,_,_,_,_,_⟩) (by kernel_rfl) rfl (fun K hK=>?_)
 obtain ⟨x0,x1,x2,x3⟩:=X.out.c4 (i:=0) rfl
 obtain ⟨y0,y1,y2,y3⟩:=X.out.f4 (i:=0) rfl
 have X:=Lib.hid (X.out.set4 (i:=0) rfl (.bool b3) (.string m3) (.bool false) (.string k3))
 go_simp
 refine hK.out _ _ (Or.inr (fun _=>⟨X.out.c3 (i:=1) rfl,X.out.c3 (i:=2) rfl⟩)) ?_
 clear hK K x0 x1 x2 x3 y0 y1 y2 y3
 try simp only [Act.put,seti,set0,setS]
 obtain ⟨W3,hV⟩:=wexi X.out
 rw [←hV] at X ⊢
 clear hV
 refine wpLate_done (by kernel_rfl) ?_ _
 go_wp2
 obtain ⟨p0,p1,p2,p3⟩:=X.out.c4 (i:=0) rfl
 exact bodyPost_ret (v:=.agg #[.bool b3,.string m3,.bool false,.string k3]) (by simp [results,Tryz.results77,go_sem,p0,p1,p2,p3]) rfl ⟨rfl,X.out.bel⟩

set_option maxHeartbeats 32000000 in
set_option maxRecDepth 100000 in
theorem rAdd_lt {p q:Rat} {b1 b3:Bool} {m1 m2 m3 k1 k2 k3:ByteArray} (hp:Rq p b1 m1 k1) (hq:Rq q (!b1) m2 k2) (hr':Rq (mkRat (sgn (!b1) ((q.num.natAbs*p.den)-(p.num.natAbs*q.den))) (p.den*q.den)) b3 m3 k3) (hle:(p.num.natAbs*q.den)<(q.num.natAbs*p.den)) (s1:m1.size≤10000) (s2:m2.size≤10000) (s3:(mag p.den).size≤10000) (s4:(mag q.den).size≤10000) (w:World) :
  Calls Tryz.prog 77 #[.agg #[.bool b1,.string m1,.bool false,.string k1],.agg #[.bool (!b1),.string m2,.bool false,.string k2]] w (RetB w (.agg #[.bool b3,.string m3,.bool false,.string k3])):=by
 have ks:∀ {x:Rat} {b:Bool} {m k:ByteArray},Rq x b m k→(mag x.den).size≤10000→k.size≤10000:=fun {x b m k} h hs=>by
  by_cases hd:x.den=1
  · rw [h.den1 hd];exact Nat.zero_le _
  · rw [h.den2 hd];exact hs
 have HF1:=Lib.hid (fun V=>rof2 hp (by omega) (by have:=ks hp s3;omega) V)
 have HF2:=Lib.hid (fun V=>rof2 hq (by omega) (by have:=ks hq s4;omega) V)
 have n0:nd p.num.natAbs≤10000:=by unfold nd;rw [←hp.mag.2];exact s1
 have n1:nd p.den≤10000:=s3
 have n2:nd q.num.natAbs≤10000:=by unfold nd;rw [←hq.mag.2];exact s2
 have n3:nd q.den≤10000:=s4
 have n4:nd (p.num.natAbs*q.den)≤20000:=by have:=nd_mul p.num.natAbs q.den;omega
 have n5:nd (q.num.natAbs*p.den)≤20000:=by have:=nd_mul q.num.natAbs p.den;omega
 have n6:nd (p.den*q.den)≤20000:=by have:=nd_mul p.den q.den;omega
 have n7:nd ((q.num.natAbs*p.den)-(p.num.natAbs*q.den))≤30000:=by have:=nd_mono (Nat.sub_le (q.num.natAbs*p.den) (p.num.natAbs*q.den));omega
 have hcn:∀ (A B:Option Addr) (n m c d:Nat) (V:World),Tr V A n c ((q.num.natAbs*p.den)-(p.num.natAbs*q.den))→Tr V B m d (p.den*q.den)→Calls Tryz.prog 123 #[.agg #[.bool (!b1),.slice A n c,.slice B m d]] V (RetB V (.agg #[.bool b3,.string m3,.bool false,.string k3])):=by
  intro A B n m c d V hA hB
  refine (rcanonical (!b1) A B n m c d _ _ V (by have:=hA.ln;omega) (by have:=hB.ln;omega) hA hB (Nat.mul_pos p.den_pos q.den_pos)).mono ?_
  rintro e w3 ⟨b4,m4,k4,rfl,hq4,hb3⟩
  obtain ⟨rfl,rfl,rfl⟩:=hr'.inj hq4
  exact ⟨rfl,hb3⟩
 have HN0:=Lib.hid n0
 have HN1:=Lib.hid n1
 have HN2:=Lib.hid n2
 have HN3:=Lib.hid n3
 have HN4:=Lib.hid n4
 have HN5:=Lib.hid n5
 have HLE:=Lib.hid (Nat.le_of_lt hle)
 have HCN:=Lib.hid hcn
 have ho:=ord_lt hle
 have hcm:∀ (A B:Option Addr) (n m c d:Nat) (V:World),n≤1000000000→m≤1000000000→Tr V A n c (p.num.natAbs*q.den)→Tr V B m d (q.num.natAbs*p.den)→Calls Tryz.prog 121 #[.slice A n c,.slice B m d] V (RetDw V (.int .i64 (-1))):=by
  intro A B n m c d V h1 h2 h3 h4
  rw [←ho]
  exact rcompare_any A B n m c d _ _ V h1 h2 h3 h4
 have HCM:=Lib.hid hcm
 clear ho hcm
 have X:=Lib.hid ((((Sb.start w).new #[.bool b1,.string m1,.bool false,.string k1] 25).new #[.bool (!b1),.string m2,.bool false,.string k2] 25).new #[.bool false,.string ⟨#[]⟩,.bool false,.string ⟨#[]⟩] 25)
 have X:=Lib.hid (X.out.pick [0,1,2] [(w.heap.size,#[.bool b1,.string m1,.bool false,.string k1],25),(w.heap.size+1,#[.bool (!b1),.string m2,.bool false,.string k2],25),(w.heap.size+1+1,#[.bool false,.string ⟨#[]⟩,.bool false,.string ⟨#[]⟩],25)] [] (by simp) (by decide) (by simp))
 clear hp hq hr' hcn n0 n1 n2 n3 n4 n5 n6 n7 s1 s2 s3 s4 ks hle
 go_enter Tryz.func77,Tryz.ntmps77
 go_upto_region 1 with fail
 go_cut [5,6] (fun s5 s6 wx=>∃ g5 g6 A1 n1 c1 B1 x1 d1 A3 n3 c3 B3 x3 d3,s5=.pointer (some ⟨g5,0,none⟩)∧s6=.pointer (some ⟨g6,0,none⟩)∧Sb w [(w.heap.size+1+1,#[.bool false,.string ⟨#[]⟩,.bool false,.string ⟨#[]⟩],25),(g5,#[.bool b1,.slice A1 n1 c1,.slice B1 x1 d1],110),(g6,#[.bool (!b1),.slice A3 n3 c3,.slice B3 x3 d3],110)] [(A1,n1,c1,p.num.natAbs),(B1,x1,d1,p.den),(A3,n3,c3,q.num.natAbs),(B3,x3,d3,q.den)] wx)
 case first =>
  refine wp_region_any (by kernel_rfl) ?_
  have X:=Lib.hid X.out.drew
  obtain ⟨W0,hV⟩:=wexi X.out
  rw [show ∀ v:World,{ v with drawn:=v.drawn+1 }=v.drew from fun _=>rfl,←hV]
  rw [←hV] at X
  clear hV
  refine rg_run (ef:=[.val (.agg #[.bool b1,.string m1,.bool false,.string k1]),.rel (FracP b1 p.num.natAbs p.den),.val (.agg #[.bool (!b1),.string m2,.bool false,.string k2]),.rel (FracP (!b1) q.num.natAbs q.den),.new #[.bool false,.slice none 0 0,.slice none 0 0] 110,.new #[.bool false,.slice none 0 0,.slice none 0 0] 110]) (ds:=[10,11,12,13,5,6]) (by kernel_rfl) (stays_of (List.forall_mem_cons.2 ⟨trivial,(List.forall_mem_cons.2 ⟨fine_frac _ _ _,(List.forall_mem_cons.2 ⟨trivial,(List.forall_mem_cons.2 ⟨fine_frac _ _ _,(List.forall_mem_cons.2 ⟨trivial,(List.forall_mem_cons.2 ⟨trivial,(fun _ h=>by simp at h)⟩)⟩)⟩)⟩)⟩)⟩)) (by decide) rfl (by intro d hd;simp at hd ⊢;omega) (fun i d o hd ho listed a w1 hR hdep K hK=>?_) 2 (fun a w1 hR=>?_)
  · have X:=Lib.hid (X.out.next hR.bel)
    have HKt:=Lib.hid hK
    have HDp:=Lib.hid hdep
    have sl2:a.tmps.getD 2 undef=.pointer (some ⟨w.heap.size,0,none⟩):=hR.keep 2 (by decide)
    have sl3:a.tmps.getD 3 undef=.pointer (some ⟨w.heap.size+1,0,none⟩):=hR.keep 3 (by decide)
    have HRg:=Lib.hid hR
    clear hK hdep hR
    rcases i with _ | _ | _ | _ | _ | _ | i
    · cases hd
      cases ho
      obtain ⟨x00,x01,x02,x03⟩:=X.out.c4 (i:=0) rfl
      obtain ⟨x10,x11,x12,x13⟩:=X.out.c4 (i:=1) rfl
      go_simp
      exact HKt.out _ _ (Or.inl ⟨rfl,Below.refl _ _⟩)
    · cases hd
      cases ho
      have dd0:a.tmps.getD 10 undef=.agg #[.bool b1,.string m1,.bool false,.string k1]:=HRg.out.val 0 _ (HDp.out 0 (by decide)) rfl
      go_simp
      (go_at_call 119;refine (HF1.out _).mono ?_;rintro e u ⟨A9,n9,c9,B9,m9,d9,rfl,hT9,hU9,hb9,_,_⟩)
      try go_wp2_with fail
      exact HKt.out _ _ (Or.inr (Or.inr ⟨_,rfl,⟨A9,n9,c9,B9,m9,d9,rfl,hT9,hU9⟩,hb9⟩))
    · cases hd
      cases ho
      obtain ⟨x00,x01,x02,x03⟩:=X.out.c4 (i:=0) rfl
      obtain ⟨x10,x11,x12,x13⟩:=X.out.c4 (i:=1) rfl
      go_simp
      exact HKt.out _ _ (Or.inl ⟨rfl,Below.refl _ _⟩)
    · cases hd
      cases ho
      have dd2:a.tmps.getD 12 undef=.agg #[.bool (!b1),.string m2,.bool false,.string k2]:=HRg.out.val 2 _ (HDp.out 2 (by decide)) rfl
      go_simp
      (go_at_call 119;refine (HF2.out _).mono ?_;rintro e u ⟨A9,n9,c9,B9,m9,d9,rfl,hT9,hU9,hb9,_,_⟩)
      try go_wp2_with fail
      exact HKt.out _ _ (Or.inr (Or.inr ⟨_,rfl,⟨A9,n9,c9,B9,m9,d9,rfl,hT9,hU9⟩,hb9⟩))
    · cases hd
      cases ho
      go_simp
      exact HKt.out _ _ (Or.inr (Or.inl ⟨_,_,rfl,rfl,rfl⟩))
    · cases hd
      cases ho
      go_simp
      exact HKt.out _ _ (Or.inr (Or.inl ⟨_,_,rfl,rfl,rfl⟩))
    · cases hd
  obtain ⟨g4,hg4,lg4,kg4⟩:=hR.new 4 _ _ (by rfl) rfl
  obtain ⟨g5,hg5,lg5,kg5⟩:=hR.new 5 _ _ (by rfl) rfl
  have vv0:a.tmps.getD 10 undef=.agg #[.bool b1,.string m1,.bool false,.string k1]:=hR.val 0 _ (by rfl) rfl
  obtain ⟨A1,n1,c1,B1,m1,d1,vv1,hT1,hU1⟩:=hR.rel 1 _ (by rfl) rfl
  replace vv1:a.tmps.getD 11 undef=.agg #[.bool b1,.slice A1 n1 c1,.slice B1 m1 d1]:=vv1
  have vv2:a.tmps.getD 12 undef=.agg #[.bool (!b1),.string m2,.bool false,.string k2]:=hR.val 2 _ (by rfl) rfl
  obtain ⟨A3,n3,c3,B3,m3,d3,vv3,hT3,hU3⟩:=hR.rel 3 _ (by rfl) rfl
  replace vv3:a.tmps.getD 13 undef=.agg #[.bool (!b1),.slice A3 n3 c3,.slice B3 m3 d3]:=vv3
  replace hg4:a.tmps.getD 5 undef=.pointer (some ⟨g4,0,none⟩):=hg4
  replace hg5:a.tmps.getD 6 undef=.pointer (some ⟨g5,0,none⟩):=hg5
  have hne:g4≠g5:=fun e=>hR.ne 4 5 _ _ _ _ g4 (by decide) (by rfl) (by rfl) rfl rfl hg4 (by rw [e];exact hg5)
  have X:=Lib.hid (X.out.add2 hR.bel lg4 kg4 lg5 kg5 hne)
  have X:=Lib.hid (X.out.rows [(A1,n1,c1,p.num.natAbs),(B1,m1,d1,p.den),(A3,n3,c3,q.num.natAbs),(B3,m3,d3,q.den)] (List.forall_mem_cons.2 ⟨hT1,List.forall_mem_cons.2 ⟨hU1,(List.forall_mem_cons.2 ⟨hT3,List.forall_mem_cons.2 ⟨hU3,(fun _ h=>by simp at h)⟩⟩)⟩⟩) (by intro x hx;simp at hx;rcases hx with rfl | rfl | rfl | rfl | rfl<;>(intro j k n;rcases j with _ | _ | _ | _ | _ | j<;>simp)))
  have ha:=hR.act
  simp only [List.foldl_cons,List.foldl_nil,seti,set0,setS,vv0,vv1,vv2,vv3,hg4,hg5] at ha
  subst ha
  clear hR vv0 vv1 vv2 vv3 hg4 lg4 kg4 hg5 lg5 kg5 hne
  refine wpAny_of_late (S:=fun _=>True) (L:=[]) _ _ _ _ ?_
  refine wpLate_one (i:=6) (o:=⟨none,_,_,_,_,_⟩) (by kernel_rfl) rfl (fun K hK=>?_)
  obtain ⟨x0,x1,x2⟩:=X.out.c3 (i:=3) rfl
  obtain ⟨y0,y1,y2⟩:=X.out.f3 (i:=3) rfl
  have X:=Lib.hid (X.out.set3 (i:=3) rfl (.bool b1) (.slice A1 n1 c1) (.slice B1 m1 d1))
  go_simp
  refine hK.out _ _ (Or.inr fun _=>trivial) ?_
  clear hK K x0 x1 x2 y0 y1 y2
  obtain ⟨W6,hV⟩:=wexi X.out
  rw [←hV] at X ⊢
  clear hV
  try simp only [Act.put]
  refine wpLate_one (i:=7) (o:=⟨none,_,_,_,_,_⟩) (by kernel_rfl) rfl (fun K hK=>?_)
  obtain ⟨x0,x1,x2⟩:=X.out.c3 (i:=4) rfl
  obtain ⟨y0,y1,y2⟩:=X.out.f3 (i:=4) rfl
  have X:=Lib.hid (X.out.set3 (i:=4) rfl (.bool (!b1)) (.slice A3 n3 c3) (.slice B3 m3 d3))
  go_simp
  refine hK.out _ _ (Or.inr fun _=>trivial) ?_
  clear hK K x0 x1 x2 y0 y1 y2
  obtain ⟨W7,hV⟩:=wexi X.out
  rw [←hV] at X ⊢
  clear hV
  try simp only [Act.put]
  refine wpLate_done (by kernel_rfl) ?_ _
  go_wp2_with fail
  go_meet
  exact ⟨_,_,_,_,_,_,_,_,_,_,_,_,_,_,rfl,rfl,X.out.pick [2,3,4] _ _ rfl (by decide) (fun _ h=>h)⟩
 obtain ⟨g5,g6,A1,n1,c1,B1,x1,d1,A3,n3,c3,B3,x3,d3,rfl,rfl,hX⟩:=hcut
 have X:=Lib.hid hX
 clear hX
 go_upto_region 2 with fail
 go_cut [7,8] (fun s7 s8 wx=>∃ A5 n5 c5 A6 n6 c6,s7=.slice A5 n5 c5∧s8=.slice A6 n6 c6∧Sb w [(w.heap.size+1+1,#[.bool false,.string ⟨#[]⟩,.bool false,.string ⟨#[]⟩],25),(g5,#[.bool b1,.slice A1 n1 c1,.slice B1 x1 d1],110),(g6,#[.bool (!b1),.slice A3 n3 c3,.slice B3 x3 d3],110)] [(A1,n1,c1,p.num.natAbs),(B1,x1,d1,p.den),(A3,n3,c3,q.num.natAbs),(B3,x3,d3,q.den),(A5,n5,c5,(p.num.natAbs*q.den)),(A6,n6,c6,(q.num.natAbs*p.den))] wx)
 case first =>
  refine wp_region_late (S:=fun w'=>(w'.cell? ⟨g5,0,none⟩=some (.bool b1)∧w'.cell? ⟨g5,1,none⟩=some (.slice A1 n1 c1)∧w'.cell? ⟨g5,2,none⟩=some (.slice B1 x1 d1))∧(w'.cell? ⟨g6,0,none⟩=some (.bool (!b1))∧w'.cell? ⟨g6,1,none⟩=some (.slice A3 n3 c3)∧w'.cell? ⟨g6,2,none⟩=some (.slice B3 x3 d3))) (L:=[]) (by kernel_rfl) ?_
  have X:=Lib.hid X.out.drew
  obtain ⟨V0,hV⟩:=wexi X.out
  rw [←hV] at X ⊢
  clear hV
  refine tk (i:=0) (oi:=⟨some 14,_,_,_,_,_⟩) (v:=_) rfl (by kernel_rfl) (fun _ _ _ h=>h) (⟨X.out.c3 (i:=1) rfl,X.out.c3 (i:=2) rfl⟩) (Or.inl ⟨by rfl,by intro w hSw;(try dsimp only at hSw);(first | (go_simp;done) | (go_simp;with_reducible rfl))⟩) ?_
  try simp only [Act.put,seti,set0,setS]
  refine tk (i:=1) (oi:=⟨some 15,_,_,_,_,_⟩) (v:=_) rfl (by kernel_rfl) (fun _ _ _ h=>h) (⟨X.out.c3 (i:=1) rfl,X.out.c3 (i:=2) rfl⟩) (Or.inl ⟨by rfl,by intro w hSw;(try dsimp only at hSw);(first | (go_simp;done) | (go_simp;with_reducible rfl))⟩) ?_
  try simp only [Act.put,seti,set0,setS]
  refine tk (i:=2) (oi:=⟨some 16,_,_,_,_,_⟩) (v:=_) rfl (by kernel_rfl) (fun _ _ _ h=>h) (⟨X.out.c3 (i:=1) rfl,X.out.c3 (i:=2) rfl⟩) (Or.inl ⟨by rfl,by intro w hSw;(try dsimp only at hSw);(first | (go_simp;done) | (go_simp;with_reducible rfl))⟩) ?_
  try simp only [Act.put,seti,set0,setS]
  refine tk (i:=3) (oi:=⟨some 17,_,_,_,_,_⟩) (v:=_) rfl (by kernel_rfl) (fun _ _ _ h=>h) (⟨X.out.c3 (i:=1) rfl,X.out.c3 (i:=2) rfl⟩) (Or.inl ⟨by rfl,by intro w hSw;(try dsimp only at hSw);(first | (go_simp;done) | (go_simp;with_reducible rfl))⟩) ?_
  try simp only [Act.put,seti,set0,setS]
  refine tk (i:=5) (oi:=⟨some 19,_,_,_,_,_⟩) (v:=_) rfl (by kernel_rfl) (fun _ _ _ h=>h) (⟨X.out.c3 (i:=1) rfl,X.out.c3 (i:=2) rfl⟩) (Or.inl ⟨by rfl,by intro w hSw;(try dsimp only at hSw);(first | (go_simp;done) | (go_simp;with_reducible rfl))⟩) ?_
  try simp only [Act.put,seti,set0,setS]
  refine tk (i:=6) (oi:=⟨some 20,_,_,_,_,_⟩) (v:=_) rfl (by kernel_rfl) (fun _ _ _ h=>h) (⟨X.out.c3 (i:=1) rfl,X.out.c3 (i:=2) rfl⟩) (Or.inl ⟨by rfl,by intro w hSw;(try dsimp only at hSw);(first | (go_simp;done) | (go_simp;with_reducible rfl))⟩) ?_
  try simp only [Act.put,seti,set0,setS]
  refine tk (i:=7) (oi:=⟨some 21,_,_,_,_,_⟩) (v:=_) rfl (by kernel_rfl) (fun _ _ _ h=>h) (⟨X.out.c3 (i:=1) rfl,X.out.c3 (i:=2) rfl⟩) (Or.inl ⟨by rfl,by intro w hSw;(try dsimp only at hSw);(first | (go_simp;done) | (go_simp;with_reducible rfl))⟩) ?_
  try simp only [Act.put,seti,set0,setS]
  refine tk (i:=8) (oi:=⟨some 22,_,_,_,_,_⟩) (v:=_) rfl (by kernel_rfl) (fun _ _ _ h=>h) (⟨X.out.c3 (i:=1) rfl,X.out.c3 (i:=2) rfl⟩) (Or.inl ⟨by rfl,by intro w hSw;(try dsimp only at hSw);(first | (go_simp;done) | (go_simp;with_reducible rfl))⟩) ?_
  try simp only [Act.put,seti,set0,setS]
  refine wpLate_one (i:=4) (o:=⟨some 18,_,_,_,_,_⟩) (by kernel_rfl) rfl (fun K hK=>?_)
  go_simp
  (go_at_call 122;refine (rtimes _ _ _ _ _ _ _ _ _ (by have h:=(X.out.rw (i:=0) rfl).ln;have h2:=HN0.out;omega) (by have h:=(X.out.rw (i:=3) rfl).ln;have h2:=HN3.out;omega) (X.out.rw (i:=0) rfl).dg (X.out.rw (i:=3) rfl).dg).mono ?_;rintro e u1 ⟨A1,n1,c1,rfl,ht9,hb9,hf9⟩;have X:=Lib.hid (X.out.row hb9 ht9 hf9);clear hb9 ht9 hf9)
  try go_wp2_with fail
  refine hK.out _ _ (Or.inr (fun _=>⟨X.out.c3 (i:=1) rfl,X.out.c3 (i:=2) rfl⟩)) ?_
  clear hK K
  try simp only [Act.put,seti,set0,setS]
  refine wpLate_one (i:=9) (o:=⟨some 23,_,_,_,_,_⟩) (by kernel_rfl) rfl (fun K hK=>?_)
  go_simp
  (go_at_call 122;refine (rtimes _ _ _ _ _ _ _ _ _ (by have h:=(X.out.rw (i:=2) rfl).ln;have h2:=HN2.out;omega) (by have h:=(X.out.rw (i:=1) rfl).ln;have h2:=HN1.out;omega) (X.out.rw (i:=2) rfl).dg (X.out.rw (i:=1) rfl).dg).mono ?_;rintro e u2 ⟨A2,n2,c2,rfl,ht9,hb9,hf9⟩;have X:=Lib.hid (X.out.row hb9 ht9 hf9);clear hb9 ht9 hf9)
  try go_wp2_with fail
  refine hK.out _ _ (Or.inr (fun _=>⟨X.out.c3 (i:=1) rfl,X.out.c3 (i:=2) rfl⟩)) ?_
  clear hK K
  try simp only [Act.put,seti,set0,setS]
  refine tk (i:=10) (oi:=⟨some 7,_,_,_,_,_⟩) (v:=_) rfl (by kernel_rfl) (fun _ _ _ h=>h) (⟨X.out.c3 (i:=1) rfl,X.out.c3 (i:=2) rfl⟩) (Or.inl ⟨by rfl,by intro w hSw;(try dsimp only at hSw);(first | (go_simp;done) | (go_simp;with_reducible rfl))⟩) ?_
  try simp only [Act.put,seti,set0,setS]
  refine tk (i:=11) (oi:=⟨some 8,_,_,_,_,_⟩) (v:=_) rfl (by kernel_rfl) (fun _ _ _ h=>h) (⟨X.out.c3 (i:=1) rfl,X.out.c3 (i:=2) rfl⟩) (Or.inl ⟨by rfl,by intro w hSw;(try dsimp only at hSw);(first | (go_simp;done) | (go_simp;with_reducible rfl))⟩) ?_
  try simp only [Act.put,seti,set0,setS]
  refine wpLate_done (by kernel_rfl) ?_ _
  go_wp2_with fail
  go_meet
  exact ⟨_,_,_,_,_,_,rfl,rfl,X.out⟩
 obtain ⟨A5,n5,c5,A6,n6,c6,rfl,rfl,hX⟩:=hcut
 have X:=Lib.hid hX
 clear hX
 obtain ⟨a0,a1,a2⟩:=X.out.c3 (i:=1) rfl
 obtain ⟨c0,c1,c2⟩:=X.out.c3 (i:=2) rfl
 go_wp2_with fail
 refine (rtimes _ _ _ _ _ _ _ _ _ (by have h:=(X.out.rw (i:=1) rfl).ln;have h2:=HN1.out;omega) (by have h:=(X.out.rw (i:=3) rfl).ln;have h2:=HN3.out;omega) (X.out.rw (i:=1) rfl).dg (X.out.rw (i:=3) rfl).dg).mono ?_
 rintro e u2 ⟨A7,n7,c7,rfl,ht9,hb9,hf9⟩
 have X:=Lib.hid (X.out.row hb9 ht9 hf9)
 clear hb9 ht9 hf9 a0 a1 a2 c0 c1 c2
 obtain ⟨a0,a1,a2⟩:=X.out.c3 (i:=1) rfl
 obtain ⟨c0,c1,c2⟩:=X.out.c3 (i:=2) rfl
 go_wp2_with fail
 refine (HCM.out _ _ _ _ _ _ _ (by have h:=(X.out.rw (i:=4) rfl).ln;have h2:=HN4.out;omega) (by have h:=(X.out.rw (i:=5) rfl).ln;have h2:=HN5.out;omega) (X.out.rw (i:=4) rfl) (X.out.rw (i:=5) rfl)).mono ?_
 rintro e u5 ⟨rfl,nn,rfl⟩
 have X:=Lib.hid (X.out.next (below_draws (Below.refl _ _) nn))
 obtain ⟨u6,hV⟩:=wexi X.out
 rw [←hV] at X ⊢
 clear hV a0 a1 a2 c0 c1 c2
 go_upto_region 8 with fail
 refine wp_region_late (S:=fun w'=>(w'.cell? ⟨g5,0,none⟩=some (.bool b1)∧w'.cell? ⟨g5,1,none⟩=some (.slice A1 n1 c1)∧w'.cell? ⟨g5,2,none⟩=some (.slice B1 x1 d1))∧(w'.cell? ⟨g6,0,none⟩=some (.bool (!b1))∧w'.cell? ⟨g6,1,none⟩=some (.slice A3 n3 c3)∧w'.cell? ⟨g6,2,none⟩=some (.slice B3 x3 d3))) (L:=[]) (by kernel_rfl) ?_
 have X:=Lib.hid X.out.drew
 obtain ⟨V0,hV⟩:=wexi X.out
 rw [←hV] at X ⊢
 clear hV
 refine tk (i:=0) (oi:=⟨some 56,_,_,_,_,_⟩) (v:=_) rfl (by kernel_rfl) (fun _ _ _ h=>h) (⟨X.out.c3 (i:=1) rfl,X.out.c3 (i:=2) rfl⟩) (Or.inl ⟨by rfl,by intro w hSw;(try dsimp only at hSw);(first | (go_simp;done) | (go_simp;with_reducible rfl))⟩) ?_
 try simp only [Act.put,seti,set0,setS]
 refine tk (i:=1) (oi:=⟨some 57,_,_,_,_,_⟩) (v:=_) rfl (by kernel_rfl) (fun _ _ _ h=>h) (⟨X.out.c3 (i:=1) rfl,X.out.c3 (i:=2) rfl⟩) (Or.inl ⟨by rfl,by intro w hSw;(try dsimp only at hSw);(first | (go_simp;done) | (go_simp;with_reducible rfl))⟩) ?_
 try simp only [Act.put,seti,set0,setS]
 refine tk (i:=2) (oi:=⟨some 58,_,_,_,_,_⟩) (v:=_) rfl (by kernel_rfl) (fun _ _ _ h=>h) (⟨X.out.c3 (i:=1) rfl,X.out.c3 (i:=2) rfl⟩) (Or.inl ⟨by rfl,by intro w hSw;(try dsimp only at hSw);(first | (go_simp;done) | (go_simp;with_reducible rfl))⟩) ?_
 try simp only [Act.put,seti,set0,setS]
 refine tk (i:=3) (oi:=⟨some 59,_,_,_,_,_⟩) (v:=_) rfl (by kernel_rfl) (fun _ _ _ h=>h) (⟨X.out.c3 (i:=1) rfl,X.out.c3 (i:=2) rfl⟩) (Or.inl ⟨by rfl,by intro w hSw;(try dsimp only at hSw);(first | (go_simp;done) | (go_simp;with_reducible rfl))⟩) ?_
 try simp only [Act.put,seti,set0,setS]
 refine tk (i:=5) (oi:=⟨some 61,_,_,_,_,_⟩) (v:=_) rfl (by kernel_rfl) (fun _ _ _ h=>h) (⟨X.out.c3 (i:=1) rfl,X.out.c3 (i:=2) rfl⟩) (Or.inl ⟨by rfl,by intro w hSw;(try dsimp only at hSw);(first | (go_simp;done) | (go_simp;with_reducible rfl))⟩) ?_
 try simp only [Act.put,seti,set0,setS]
 refine wpLate_one (i:=4) (o:=⟨some 60,_,_,_,_,_⟩) (by kernel_rfl) rfl (fun K hK=>?_)
 go_simp
 (go_at_call 135;refine (rminus _ _ _ _ _ _ _ _ _ (by have h:=(X.out.rw (i:=5) rfl).ln;have h2:=HN5.out;omega) (by have h:=(X.out.rw (i:=4) rfl).ln;have h2:=HN4.out;omega) (X.out.rw (i:=5) rfl).dg (X.out.rw (i:=4) rfl).dg HLE.out).mono ?_;rintro e u1 ⟨A1,n1,c1,rfl,ht9,hb9,hf9⟩;have X:=Lib.hid (X.out.row hb9 ht9 hf9);clear hb9 ht9 hf9)
 try go_wp2_with fail
 refine hK.out _ _ (Or.inr (fun _=>⟨X.out.c3 (i:=1) rfl,X.out.c3 (i:=2) rfl⟩)) ?_
 clear hK K
 try simp only [Act.put,seti,set0,setS]
 refine tk (i:=6) (oi:=⟨some 62,_,_,_,_,_⟩) (v:=_) rfl (by kernel_rfl) (fun _ _ _ h=>h) (⟨X.out.c3 (i:=1) rfl,X.out.c3 (i:=2) rfl⟩) (Or.inl ⟨by rfl,by intro w hSw;(try dsimp only at hSw);(first | (go_simp;done) | (go_simp;with_reducible rfl))⟩) ?_
 try simp only [Act.put,seti,set0,setS]
 refine wpLate_one (i:=7) (o:=⟨some 63,_,_,_,_,_⟩) (by kernel_rfl) rfl (fun K hK=>?_)
 go_simp
 (go_at_call 123;refine (HCN.out _ _ _ _ _ _ _ (X.out.rw (i:=7) rfl) (X.out.rw (i:=6) rfl)).mono ?_;rintro e u2 ⟨rfl,hb9⟩;have X:=Lib.hid (X.out.next hb9);clear hb9)
 try go_wp2_with fail
 refine hK.out _ _ (Or.inr (fun _=>⟨X.out.c3 (i:=1) rfl,X.out.c3 (i:=2) rfl⟩)) ?_
 clear hK K
 try simp only [Act.put,seti,set0,setS]
 refine wpLate_one (i:=8) (o:=⟨none,_,_,_,_,_⟩) (by kernel_rfl) rfl (fun K hK=>?_)
 obtain ⟨x0,x1,x2,x3⟩:=X.out.c4 (i:=0) rfl
 obtain ⟨y0,y1,y2,y3⟩:=X.out.f4 (i:=0) rfl
 have X:=Lib.hid (X.out.set4 (i:=0) rfl (.bool b3) (.string m3) (.bool false) (.string k3))
 go_simp
 refine hK.out _ _ (Or.inr (fun _=>⟨X.out.c3 (i:=1) rfl,X.out.c3 (i:=2) rfl⟩)) ?_
 clear hK K x0 x1 x2 x3 y0 y1 y2 y3
 try simp only [Act.put,seti,set0,setS]
 obtain ⟨W3,hV⟩:=wexi X.out
 rw [←hV] at X ⊢
 clear hV
 refine wpLate_done (by kernel_rfl) ?_ _
 go_wp2
 obtain ⟨p0,p1,p2,p3⟩:=X.out.c4 (i:=0) rfl
 exact bodyPost_ret (v:=.agg #[.bool b3,.string m3,.bool false,.string k3]) (by simp [results,Tryz.results77,go_sem,p0,p1,p2,p3]) rfl ⟨rfl,X.out.bel⟩
end Go.Proofs.YtpnokfgplnmjpaaGreatDoor


namespace Go.Proofs.YtpnokfgplnmjpaaGreatDoor
open Go.RowKit
attribute [local go_sem ↓] Go.wp_at_zero Go.wp_at_succ

theorem sgn_nat (b:Bool) (x u:Nat):sgn b x*(u:Int)=sgn b (x*u):=by
 cases b<;>simp [sgn,Int.neg_mul]
theorem sgn_sum1 (b:Bool) (X Y:Nat):sgn b X+sgn b Y=sgn b (X+Y):=by
 cases b<;>simp [sgn]<;>omega
theorem sgn_sum2 (b:Bool) (X Y:Nat) (h:Y≤X):sgn b X+sgn (!b) Y=sgn b (X-Y):=by
 cases b<;>simp [sgn]<;>omega
theorem sgn_sum3 (b:Bool) (X Y:Nat) (h:X<Y):sgn b X+sgn (!b) Y=sgn (!b) (Y-X):=by
 cases b<;>simp [sgn]<;>omega

theorem Rq.sg {q:Rat} {b:Bool} {m k:ByteArray} (h:Rq q b m k):q.num=sgn b q.num.natAbs:=by
 rw [h.mag.1,sgn_self]

theorem rAdd_f {p q:Rat} {b1 b2 b3:Bool} {m1 m2 m3 k1 k2 k3:ByteArray} (hp:Rq p b1 m1 k1) (hq:Rq q b2 m2 k2) (hr:Rq (p+q) b3 m3 k3) (s1:m1.size≤10000) (s2:m2.size≤10000) (s3:(mag p.den).size≤10000) (s4:(mag q.den).size≤10000) (w:World) :
  Calls Tryz.prog 77 #[.agg #[.bool b1,.string m1,.bool false,.string k1],.agg #[.bool b2,.string m2,.bool false,.string k2]] w (RetB w (.agg #[.bool b3,.string m3,.bool false,.string k3])):=by
 have e:p+q=mkRat (sgn b1 (p.num.natAbs*q.den)+sgn b2 (q.num.natAbs*p.den)) (p.den*q.den):=by
  rw [Rat.add_def',←sgn_nat,←sgn_nat,←hp.sg,←hq.sg]
 rw [e] at hr
 by_cases hb:b2=b1
 · subst hb
   rw [sgn_sum1] at hr
   exact rAdd_same hp hq hr s1 s2 s3 s4 w
 · have hb2:b2=!b1:=by cases b1<;>cases b2<;>simp_all
   subst hb2
   by_cases hle:q.num.natAbs*p.den≤p.num.natAbs*q.den
   · rw [sgn_sum2 _ _ _ hle] at hr
     exact rAdd_ge hp hq hr hle s1 s2 s3 s4 w
   · rw [sgn_sum3 _ _ _ (by omega)] at hr
     exact rAdd_lt hp hq hr (by omega) s1 s2 s3 s4 w
end Go.Proofs.YtpnokfgplnmjpaaGreatDoor


namespace Go.Proofs.YtpnokfgplnmjpaaGreatDoor
open Go.RowKit
attribute [local go_sem ↓] Go.wp_at_zero Go.wp_at_succ

theorem nd_bval (s:ByteArray):nd (bval s)≤s.size:=by
 unfold nd
 exact mag_size_le (bval_lt s)

set_option maxHeartbeats 4000000 in
set_option maxRecDepth 100000 in
theorem rPrint_pi {m P1:ByteArray} {N:Nat} (hN:bval m=N) (hP1:P1=⟨(printed false N).toArray⟩) (z1:P1.size≤4000) (s1:m.size≤900) (w:World) :
  Calls Tryz.prog 117 #[.agg #[.bool false,.string m,.bool false,.string ⟨#[]⟩]] w (RetB w (.string P1)):=by
 have HD1:=Lib.hid (fun V=>rdigits false m V (by omega))
 rw [hN] at HD1
 have l1:nd N≤900:=by rw [←hN];exact Nat.le_trans (nd_bval m) s1
 have HC1:=Lib.hid (fun (A:Option Addr) (n c:Nat) (V:World) (ht:Tr V A n c N)=>rdecimal A n c N V (by have:=ht.ln;omega) ht)
 rw [←hP1] at HC1
 have X:=Lib.hid ((Sb.start w).new #[.bool false,.string m,.bool false,.string ⟨#[]⟩] 25)
 have X:=Lib.hid (X.out.pick [0] [(w.heap.size,#[.bool false,.string m,.bool false,.string ⟨#[]⟩],25)] [] (by simp) (by decide) (by simp))
 clear hN hP1 s1 l1
 go_enter Tryz.func117,Tryz.ntmps117
 obtain ⟨a0,a1,a2,a3⟩:=X.out.c4 (i:=0) rfl
 go_wp2_with fail
 refine (HD1.out _).mono ?_
 rintro e u1 ⟨A1,n1,c1,rfl,ht9,hb9,-⟩
 have X:=Lib.hid (X.out.next hb9)
 have T1:=Lib.hid ht9
 clear hb9 ht9
 clear a0 a1 a2 a3
 go_wp2_with fail
 refine (HC1.out _ _ _ _ T1.out).mono ?_
 rintro e u2 ⟨rfl,hb9⟩
 have X:=Lib.hid (X.out.next hb9)
 clear hb9
 obtain ⟨a0,a1,a2,a3⟩:=X.out.c4 (i:=0) rfl
 go_wp2
 go_ret
 exact ⟨rfl,X.out.bel⟩

set_option maxHeartbeats 4000000 in
set_option maxRecDepth 100000 in
theorem rPrint_ni {m P1:ByteArray} {N:Nat} (hN:bval m=N) (hP1:P1=⟨(printed false N).toArray⟩) (z1:P1.size≤4000) (s1:m.size≤900) (w:World) :
  Calls Tryz.prog 117 #[.agg #[.bool true,.string m,.bool false,.string ⟨#[]⟩]] w (RetB w (.string (⟨#[45]⟩++P1))):=by
 have HD1:=Lib.hid (fun V=>rdigits true m V (by omega))
 rw [hN] at HD1
 have l1:nd N≤900:=by rw [←hN];exact Nat.le_trans (nd_bval m) s1
 have HC1:=Lib.hid (fun (A:Option Addr) (n c:Nat) (V:World) (ht:Tr V A n c N)=>rdecimal A n c N V (by have:=ht.ln;omega) ht)
 rw [←hP1] at HC1
 have X:=Lib.hid ((Sb.start w).new #[.bool true,.string m,.bool false,.string ⟨#[]⟩] 25)
 have X:=Lib.hid (X.out.pick [0] [(w.heap.size,#[.bool true,.string m,.bool false,.string ⟨#[]⟩],25)] [] (by simp) (by decide) (by simp))
 clear hN hP1 s1 l1
 go_enter Tryz.func117,Tryz.ntmps117
 obtain ⟨a0,a1,a2,a3⟩:=X.out.c4 (i:=0) rfl
 go_wp2_with fail
 refine (HD1.out _).mono ?_
 rintro e u1 ⟨A1,n1,c1,rfl,ht9,hb9,-⟩
 have X:=Lib.hid (X.out.next hb9)
 have T1:=Lib.hid ht9
 clear hb9 ht9
 clear a0 a1 a2 a3
 go_wp2_with fail
 refine (HC1.out _ _ _ _ T1.out).mono ?_
 rintro e u2 ⟨rfl,hb9⟩
 have X:=Lib.hid (X.out.next hb9)
 clear hb9
 obtain ⟨a0,a1,a2,a3⟩:=X.out.c4 (i:=0) rfl
 go_wp2
 go_ret
 exact ⟨rfl,X.out.bel⟩

set_option maxHeartbeats 4000000 in
set_option maxRecDepth 100000 in
theorem rPrint_pf {m k P1 P2:ByteArray} {N D:Nat} (hN:bval m=N) (hD:bval k=D) (hP1:P1=⟨(printed false N).toArray⟩) (hP2:P2=⟨(printed false D).toArray⟩) (z1:P1.size≤4000) (z2:P2.size≤4000) (s1:m.size≤900) (s2:k.size≤900) (hk:k≠⟨#[]⟩) (w:World) :
  Calls Tryz.prog 117 #[.agg #[.bool false,.string m,.bool false,.string k]] w (RetB w (.string ((P1++⟨#[47]⟩)++P2))):=by
 have HD1:=Lib.hid (fun V=>rdigits false m V (by omega))
 have HD2:=Lib.hid (fun V=>rdigits false k V (by omega))
 rw [hN] at HD1
 rw [hD] at HD2
 have l1:nd N≤900:=by rw [←hN];exact Nat.le_trans (nd_bval m) s1
 have l2:nd D≤900:=by rw [←hD];exact Nat.le_trans (nd_bval k) s2
 have HC1:=Lib.hid (fun (A:Option Addr) (n c:Nat) (V:World) (ht:Tr V A n c N)=>rdecimal A n c N V (by have:=ht.ln;omega) ht)
 have HC2:=Lib.hid (fun (A:Option Addr) (n c:Nat) (V:World) (ht:Tr V A n c D)=>rdecimal A n c D V (by have:=ht.ln;omega) ht)
 rw [←hP1] at HC1
 rw [←hP2] at HC2
 have hem:k.toList.isEmpty=false:=by rw [List.isEmpty_eq_false_iff];exact toList_ne (l:=[]) hk
 have hne:¬k.toList=[]:=toList_ne (l:=[]) hk
 have X:=Lib.hid ((Sb.start w).new #[.bool false,.string m,.bool false,.string k] 25)
 have X:=Lib.hid (X.out.pick [0] [(w.heap.size,#[.bool false,.string m,.bool false,.string k],25)] [] (by simp) (by decide) (by simp))
 clear hN hP1 s1 l1 hD hP2 s2 l2 hk
 go_enter Tryz.func117,Tryz.ntmps117
 obtain ⟨a0,a1,a2,a3⟩:=X.out.c4 (i:=0) rfl
 go_wp2_with fail
 refine (HD1.out _).mono ?_
 rintro e u1 ⟨A1,n1,c1,rfl,ht9,hb9,-⟩
 have X:=Lib.hid (X.out.next hb9)
 have T1:=Lib.hid ht9
 clear hb9 ht9
 clear a0 a1 a2 a3
 go_wp2_with fail
 refine (HC1.out _ _ _ _ T1.out).mono ?_
 rintro e u2 ⟨rfl,hb9⟩
 have X:=Lib.hid (X.out.next hb9)
 clear hb9
 obtain ⟨a0,a1,a2,a3⟩:=X.out.c4 (i:=0) rfl
 go_wp2_with fail
 clear a0 a1 a2 a3
 refine (HD2.out _).mono ?_
 rintro e u3 ⟨A3,n3,c3,rfl,ht9,hb9,-⟩
 have X:=Lib.hid (X.out.next hb9)
 have T3:=Lib.hid ht9
 clear hb9 ht9
 go_wp2_with fail
 refine (HC2.out _ _ _ _ T3.out).mono ?_
 rintro e u4 ⟨rfl,hb9⟩
 have X:=Lib.hid (X.out.next hb9)
 clear hb9
 go_wp2
 go_ret
 exact ⟨rfl,X.out.bel⟩

set_option maxHeartbeats 4000000 in
set_option maxRecDepth 100000 in
theorem rPrint_nf {m k P1 P2:ByteArray} {N D:Nat} (hN:bval m=N) (hD:bval k=D) (hP1:P1=⟨(printed false N).toArray⟩) (hP2:P2=⟨(printed false D).toArray⟩) (z1:P1.size≤4000) (z2:P2.size≤4000) (s1:m.size≤900) (s2:k.size≤900) (hk:k≠⟨#[]⟩) (w:World) :
  Calls Tryz.prog 117 #[.agg #[.bool true,.string m,.bool false,.string k]] w (RetB w (.string (((⟨#[45]⟩++P1)++⟨#[47]⟩)++P2))):=by
 have HD1:=Lib.hid (fun V=>rdigits true m V (by omega))
 have HD2:=Lib.hid (fun V=>rdigits false k V (by omega))
 rw [hN] at HD1
 rw [hD] at HD2
 have l1:nd N≤900:=by rw [←hN];exact Nat.le_trans (nd_bval m) s1
 have l2:nd D≤900:=by rw [←hD];exact Nat.le_trans (nd_bval k) s2
 have HC1:=Lib.hid (fun (A:Option Addr) (n c:Nat) (V:World) (ht:Tr V A n c N)=>rdecimal A n c N V (by have:=ht.ln;omega) ht)
 have HC2:=Lib.hid (fun (A:Option Addr) (n c:Nat) (V:World) (ht:Tr V A n c D)=>rdecimal A n c D V (by have:=ht.ln;omega) ht)
 rw [←hP1] at HC1
 rw [←hP2] at HC2
 have hem:k.toList.isEmpty=false:=by rw [List.isEmpty_eq_false_iff];exact toList_ne (l:=[]) hk
 have hne:¬k.toList=[]:=toList_ne (l:=[]) hk
 have X:=Lib.hid ((Sb.start w).new #[.bool true,.string m,.bool false,.string k] 25)
 have X:=Lib.hid (X.out.pick [0] [(w.heap.size,#[.bool true,.string m,.bool false,.string k],25)] [] (by simp) (by decide) (by simp))
 clear hN hP1 s1 l1 hD hP2 s2 l2 hk
 go_enter Tryz.func117,Tryz.ntmps117
 obtain ⟨a0,a1,a2,a3⟩:=X.out.c4 (i:=0) rfl
 go_wp2_with fail
 refine (HD1.out _).mono ?_
 rintro e u1 ⟨A1,n1,c1,rfl,ht9,hb9,-⟩
 have X:=Lib.hid (X.out.next hb9)
 have T1:=Lib.hid ht9
 clear hb9 ht9
 clear a0 a1 a2 a3
 go_wp2_with fail
 refine (HC1.out _ _ _ _ T1.out).mono ?_
 rintro e u2 ⟨rfl,hb9⟩
 have X:=Lib.hid (X.out.next hb9)
 clear hb9
 obtain ⟨a0,a1,a2,a3⟩:=X.out.c4 (i:=0) rfl
 go_wp2_with fail
 clear a0 a1 a2 a3
 refine (HD2.out _).mono ?_
 rintro e u3 ⟨A3,n3,c3,rfl,ht9,hb9,-⟩
 have X:=Lib.hid (X.out.next hb9)
 have T3:=Lib.hid ht9
 clear hb9 ht9
 go_wp2_with fail
 refine (HC2.out _ _ _ _ T3.out).mono ?_
 rintro e u4 ⟨rfl,hb9⟩
 have X:=Lib.hid (X.out.next hb9)
 clear hb9
 go_wp2
 go_ret
 exact ⟨rfl,X.out.bel⟩

theorem printed_nat (X:Nat):printed false X=Lib.decDigits X:=by
 unfold printed
 by_cases h:X=0
 · rw [if_pos h,h,Lib.decDigits_one (by decide)]
   rfl
 · rw [if_neg h]
   rfl
theorem printed_neg {X:Nat} (h:X≠0):printed true X=45 :: printed false X:=by
 unfold printed
 rw [if_neg h,if_neg h]
 rfl
theorem trim_yes (l:List UInt8):Lib.trimPrefix (45 :: l) [45]=l∧Lib.hasPrefix (45 :: l) [45]=true:=by
 have h:Lib.hasPrefix (45 :: l) [45]=true:=by simp [Lib.hasPrefix]
 exact ⟨by unfold Lib.trimPrefix;rw [if_pos h];rfl,h⟩
theorem trim_not {l:List UInt8} (h:∀ r,l≠45 :: r):Lib.trimPrefix l [45]=l∧Lib.hasPrefix l [45]=false:=by
 have h1:Lib.hasPrefix l [45]=false:=by
  cases l with
  | nil=>rfl
  | cons b r =>
    have h2:b≠45:=fun e=>h r (by rw [e])
    show ((45==b) && ([]:List UInt8).isPrefixOf r)=false
    rw [show ((45:UInt8)==b)=false from beq_eq_false_iff_ne.2 (fun e=>h2 (Eq.symm e))]
    rfl
 exact ⟨by unfold Lib.trimPrefix;rw [if_neg (by rw [h1];decide)],h1⟩
theorem dec_no (X:Nat) (t:List UInt8):∀ r,Lib.decDigits X++t≠45 :: r:=by
 intro r h
 have h1:=dec_ne X
 have h2:=dec_first X
 cases hd:Lib.decDigits X with
 | nil=>exact h1 hd
 | cons b l =>
   rw [hd] at h h2
   simp at h h2
   exact h2 h.1
theorem pq_some (neg:Bool) (d:List UInt8):∃ q e,Pq neg d q e:=by
 by_cases h1:Dgs d
 · exact ⟨_,_,.int h1⟩
 · by_cases h2:∃ p r,d=p++47 :: r∧Dgs p∧Dgs r
   · obtain ⟨p,r,e,hp,hr⟩:=h2
     by_cases h0:val10 r=0
     · exact ⟨_,_,.zero p r e hp hr h0⟩
     · exact ⟨_,_,.frac p r e hp hr h0⟩
   · exact ⟨_,_,.bad h1 fun p r e hp hr=>h2 ⟨p,r,e,hp,hr⟩⟩
theorem pq_printed (q:Rat) (b:Bool) (hb:q.num=sgn b q.num.natAbs):Pq b (if q.den=1 then Lib.decDigits q.num.natAbs else Lib.decDigits q.num.natAbs++47 :: Lib.decDigits q.den) q 0:=by
 have h1:=dec_digits q.num.natAbs
 have h2:=dec_digits q.den
 have d1:Dgs (Lib.decDigits q.num.natAbs):=⟨dec_ne _,h1.1⟩
 have d2:Dgs (Lib.decDigits q.den):=⟨dec_ne _,h2.1⟩
 by_cases hd:q.den=1
 · rw [if_pos hd]
   have h:=Pq.int (neg:=b) d1
   rw [h1.2,←hb,←int_of_den hd] at h
   exact h
 · rw [if_neg hd]
   have h:=Pq.frac (neg:=b) _ _ rfl d1 d2 (by rw [h2.2];exact q.den_nz)
   rw [h1.2,h2.2,←hb,Rat.num_divInt_den] at h
   exact h

theorem cat_two (a b:List UInt8):(⟨a.toArray⟩++⟨#[47]⟩++⟨b.toArray⟩:ByteArray)=⟨(a++47 :: b).toArray⟩:=by
 apply ByteArray.ext
 simp
theorem text_size (l:List UInt8):(⟨l.toArray⟩:ByteArray).size=l.length:=by simp [ByteArray.size]

end Go.Proofs.YtpnokfgplnmjpaaGreatDoor


namespace Go.Proofs.YtpnokfgplnmjpaaGreatDoor
open Go.RowKit
attribute [local go_sem ↓] Go.wp_at_zero Go.wp_at_succ

theorem Rq.minus {q:Rat} {b:Bool} {m k:ByteArray} (h:Rq q b m k):∃ c,Rq (-q) c m k:=by
 refine ⟨decide (-q.num<0),⟨?_,by rw [Rat.neg_den];exact h.den⟩⟩
 rw [Rat.neg_num,h.mag.2]
 unfold enc
 rw [Int.natAbs_neg]

end Go.Proofs.YtpnokfgplnmjpaaGreatDoor


namespace Go.Proofs.YtpnokfgplnmjpaaGreatDoor
open Go.RowKit
attribute [local go_sem ↓] Go.wp_at_zero Go.wp_at_succ

theorem cmpQ_le {p q:Rat}:cmpQ p q≤0↔p≤q:=by
 rw [Rat.le_iff]
 unfold cmpQ cmpZ
 split
 · exact ⟨fun _=>by omega,fun _=>by decide⟩
 · split
   · exact ⟨fun h=>absurd h (by decide),fun h=>by omega⟩
   · exact ⟨fun _=>by omega,fun _=>by decide⟩
theorem cmpQ_anti (p q:Rat):cmpQ q p=- cmpQ p q:=by
 unfold cmpQ cmpZ
 split<;>split<;>simp<;>omega
theorem cmpQ_ge {p q:Rat}:0≤cmpQ p q↔q≤p:=by
 have h:=@cmpQ_le q p
 rw [cmpQ_anti p q] at h
 rw [←h]
 omega
theorem cmpQ_three (p q:Rat):cmpQ p q=-1∨cmpQ p q=0∨cmpQ p q=1:=by
 unfold cmpQ cmpZ
 split
 · exact .inl rfl
 · split
   · exact .inr (.inr rfl)
   · exact .inr (.inl rfl)
theorem cmpQ_of {p q r s:Rat} (h1:p≤q↔r≤s) (h2:q≤p↔s≤r):cmpQ p q=cmpQ r s:=by
 have h3:=cmpQ_three p q
 have h4:=cmpQ_three r s
 have h5:cmpQ p q≤0↔cmpQ r s≤0:=cmpQ_le.trans (h1.trans cmpQ_le.symm)
 have h6:0≤cmpQ p q↔0≤cmpQ r s:=cmpQ_ge.trans (h2.trans cmpQ_ge.symm)
 omega
theorem sign_cmp (q:Rat):q.num.sign=cmpQ q 0:=by
 unfold cmpQ
 rw [show (0:Rat).den=1 from rfl,show (0:Rat).num=0 from rfl,Int.zero_mul,Int.natCast_one,Int.mul_one]
 rcases Int.lt_trichotomy q.num 0 with h | h | h
 · rw [cmpZ_lt h,Int.sign_eq_neg_one_of_neg h]
 · rw [cmpZ_eq0 h,h];rfl
 · rw [cmpZ_gt h,Int.sign_eq_one_of_pos h]
theorem cmpQ_sub (p q:Rat):(p-q).num.sign=cmpQ p q:=by
 rw [sign_cmp]
 refine cmpQ_of ?_ ?_
 · rw [←Rat.not_lt,←Rat.not_lt,Rat.lt_iff_sub_pos q p]
 · rw [Rat.le_iff_sub_nonneg q p]

end Go.Proofs.YtpnokfgplnmjpaaGreatDoor


namespace Go.Proofs.YtpnokfgplnmjpaaGreatDoor
open Go.RowKit

section
variable {w W:World} {l:List (Nat×Array Value×TypeId)} {rs:List (Option Addr×Nat×Nat×Nat)} {g:Nat} {T:TypeId}

theorem Sb.c9 (h:Sb w l rs W) {i:Nat} {x0 x1 x2 x3 x4 x5 x6 x7 x8:Value} (hl:l[i]?=some (g,#[x0,x1,x2,x3,x4,x5,x6,x7,x8],T)):W.cell? ⟨g,0,none⟩=some x0∧W.cell? ⟨g,1,none⟩=some x1∧W.cell? ⟨g,2,none⟩=some x2∧W.cell? ⟨g,3,none⟩=some x3∧W.cell? ⟨g,4,none⟩=some x4∧W.cell? ⟨g,5,none⟩=some x5∧W.cell? ⟨g,6,none⟩=some x6∧W.cell? ⟨g,7,none⟩=some x7∧W.cell? ⟨g,8,none⟩=some x8:=by
 have hk:=h.at hl
 refine ⟨?_,?_,?_,?_,?_,?_,?_,?_,?_⟩<;>simp [World.cell?,hk]
theorem Sb.c12 (h:Sb w l rs W) {i:Nat} {x0 x1 x2 x3 x4 x5 x6 x7 x8 x9 x10 x11:Value} (hl:l[i]?=some (g,#[x0,x1,x2,x3,x4,x5,x6,x7,x8,x9,x10,x11],T)):W.cell? ⟨g,0,none⟩=some x0∧W.cell? ⟨g,1,none⟩=some x1∧W.cell? ⟨g,2,none⟩=some x2∧W.cell? ⟨g,3,none⟩=some x3∧W.cell? ⟨g,4,none⟩=some x4∧W.cell? ⟨g,5,none⟩=some x5∧W.cell? ⟨g,6,none⟩=some x6∧W.cell? ⟨g,7,none⟩=some x7∧W.cell? ⟨g,8,none⟩=some x8∧W.cell? ⟨g,9,none⟩=some x9∧W.cell? ⟨g,10,none⟩=some x10∧W.cell? ⟨g,11,none⟩=some x11:=by
 have hk:=h.at hl
 refine ⟨?_,?_,?_,?_,?_,?_,?_,?_,?_,?_,?_,?_⟩<;>simp [World.cell?,hk]
end

structure Rv (x:Sg.Rl) (b:Bool) (m k:ByteArray) (c:Bool) (n l:ByteArray) (s:Bool):Prop where
 p:Rq x.p b m k
 r:Rq x.a c n l
 neg:s=decide (x.s<0)
structure Rz (n:Nat) (x:Sg.Rl):Prop where
 p:Sz n x.p
 r:Sz n x.a
theorem Rv.some_ (x:Sg.Rl):∃ b m k c n l s,Rv x b m k c n l s:=⟨_,_,_,_,_,_,_,⟨rfl,rfl⟩,⟨rfl,rfl⟩,rfl⟩
theorem Sz.up {n m:Nat} {q:Rat} (h:Sz n q) (hm:n≤m):Sz m q:=⟨Nat.lt_of_lt_of_le h.1 (Nat.pow_le_pow_right (by decide) hm),Nat.lt_of_lt_of_le h.2 (Nat.pow_le_pow_right (by decide) hm)⟩
theorem Sz.zero (n:Nat):Sz (n+1) 0:=⟨Nat.pow_pos (by decide),by show 1<256^(n+1);rw [Nat.pow_succ];have:=Nat.pow_pos (a:=256) (n:=n) (by decide);omega⟩

theorem num_neg_iff {q:Rat}:q.num<0↔q<0:=by rw [←Int.not_le,Rat.num_nonneg,Rat.not_le]
theorem num_pos_iff {q:Rat}:0<q.num↔0<q:=by
 have h1:=Rat.num_nonneg (q:=q)
 have h2:=Rat.num_eq_zero (q:=q)
 constructor<;>intro h
 · have:0≤q:=h1.1 (by omega)
   have:q≠0:=fun e=>by rw [h2.2 e] at h;omega
   grind
 · have h3:0≤q.num:=h1.2 (by grind)
   have h4:q.num≠0:=fun e=>by have:=h2.1 e;grind
   omega
theorem sgq_num (q:Rat):Sg.sgq q=q.num.sign:=by
 rcases Sg.sgq_three q with ⟨h,e⟩ | ⟨h,e⟩ | ⟨h,e⟩
 · rw [e,Int.sign_eq_neg_one_of_neg (num_neg_iff.2 h)]
 · rw [e,h];rfl
 · rw [e,Int.sign_eq_one_of_pos (num_pos_iff.2 h)]
theorem sgq_cmp (p q:Rat):Sg.sgq (p-q)=cmpQ p q:=by rw [sgq_num,cmpQ_sub]
theorem Rq.zero:Rq 0 false ⟨#[]⟩ ⟨#[]⟩:=⟨by rw [show (0:Rat).num=0 from rfl];exact enc_nought,by rw [show (0:Rat).den=1 from rfl];exact dm_one.symm⟩
theorem Rq.nought {q:Rat} {b:Bool} {m k:ByteArray} (h:Rq q b m k):q=0↔(b=false∧m=⟨#[]⟩∧k=⟨#[]⟩):=by
 constructor
 · rintro rfl
   exact h.inj Rq.zero
 · rintro ⟨rfl,rfl,rfl⟩
   exact h.eq_of Rq.zero
end Go.Proofs.YtpnokfgplnmjpaaGreatDoor


namespace Go.Proofs.YtpnokfgplnmjpaaGreatDoor
open Go.RowKit

inductive At {α:Type}:List α→Nat→α→Prop
 | here {x:α} {l:List α}:At (x :: l) 0 x
 | there {x y:α} {l:List α} {i:Nat} (h:At l i x):At (y :: l) (i+1) x
theorem At.get {α:Type} {l:List α} {i:Nat} {x:α} (h:At l i x):l[i]?=some x:=by
 induction h with
 | here=>rfl
 | there _ ih=>simpa using ih
theorem At.left {α:Type} {l l':List α} {i:Nat} {x:α} (h:At l i x):At (l++l') i x:=by
 induction h with
 | here=>exact At.here
 | there _ ih=>exact At.there ih
theorem At.last {α:Type} {x:α}:∀ {l:List α},At (l++[x]) l.length x
 | []=>At.here
 | _ :: _=>At.there At.last
def puts (W:World) (g:Nat):Nat→List Value→World
 | _,[]=>W
 | k,y :: ys=>puts (W.setCell ⟨g,k,none⟩ y) g (k+1) ys
def sets (cs:Array Value):Nat→List Value→Array Value
 | _,[]=>cs
 | k,y :: ys=>sets (cs.setIfInBounds k y) (k+1) ys
theorem puts_at {g:Nat} {T:TypeId}:∀ (ys:List Value) (k:Nat) (cs:Array Value) (W:World),W.heap[g]?=some (.cells cs T (0,0))→(puts W g k ys).heap[g]?=some (.cells (sets cs k ys) T (0,0))
 | [],_,_,_,h=>h
 | y :: ys,k,cs,W,h=>puts_at ys (k+1) _ _ (by simp [World.setCell,Array.getElem?_modify,h])
theorem puts_oth {g:Nat}:∀ (ys:List Value) (k:Nat) (W:World) (j:Nat),j≠g→(puts W g k ys).heap[j]?=W.heap[j]?
 | [],_,_,_,_=>rfl
 | y :: ys,k,W,j,h=>(puts_oth ys (k+1) _ j h).trans (Below.heap_setCell W ⟨g,k,none⟩ y j h)
theorem puts_size {g:Nat}:∀ (ys:List Value) (k:Nat) (W:World),(puts W g k ys).heap.size=W.heap.size
 | [],_,_=>rfl
 | y :: ys,k,W=>(puts_size ys (k+1) _).trans (by simp [World.setCell])
theorem puts_below {B g:Nat} (hB:B≤g):∀ (ys:List Value) (k:Nat) (a W:World),Below B a W→Below B a (puts W g k ys)
 | [],_,_,_,h=>h
 | y :: ys,k,a,W,h=>puts_below hB ys (k+1) a _ (h.setCell (p:=⟨g,k,none⟩) hB y)
section
variable {w W:World} {l:List (Nat×Array Value×TypeId)} {rs:List (Option Addr×Nat×Nat×Nat)} {g:Nat} {T:TypeId}
theorem Sb.puts (h:Sb w l rs W) {i:Nat} {cs:Array Value} (hl:l[i]?=some (g,cs,T)) (ys:List Value) (he:sets cs 0 ys=ys.toArray):Sb w (l.set i (g,ys.toArray,T)) rs (puts W g 0 ys):=by
 have hm:=List.mem_of_getElem? hl
 refine h.put hl ?_ (fun k hk=>puts_oth ys 0 W k hk) (Nat.le_of_eq (puts_size ys 0 W).symm) (puts_below (h.lo _ hm) ys 0 W W (Below.refl _ _))
 rw [←he]
 exact puts_at ys 0 cs W (h.k _ hm)
theorem Sb.init3 {l2 l3 l4:List (Nat×Array Value×TypeId)} (h:Sb w (((l++l2)++l3)++l4) rs W):Sb w l [] W:=h.init.init.init
theorem nf1 (X:Sb w l rs W) {i k:Nat} {xs:List Value} {y:Value} (hl:At l i (g,xs.toArray,T)):Sb w (l.set i (g,(xs.set k y).toArray,T)) rs (W.setCell ⟨g,k,none⟩ y):=by
 have hm:=List.mem_of_getElem? hl.get
 refine X.put hl.get ?_ (fun j hj=>Below.heap_setCell W ⟨g,k,none⟩ y j hj) (Nat.le_of_eq (by simp [World.setCell])) ((Below.refl _ _).setCell (p:=⟨g,k,none⟩) (X.lo _ hm) y)
 have h:=X.k _ hm
 simp [World.setCell,Array.getElem?_modify,h]
theorem sf1 {M:World→Prop} (X:Sb w l rs W) {i k:Nat} {xs:List Value} {y:Value} (hl:At l i (g,xs.toArray,T)) (h:∀ V,Sb w (l.set i (g,(xs.set k y).toArray,T)) rs V→M V):M (W.setCell ⟨g,k,none⟩ y):=h _ (nf1 X hl)
theorem kf1 {a':Act} {K C:Act→World→Prop} {c:World→Prop} (hK:Shut (∀ a' w',c w'→C a' w'→K a' w')) (X:Sb w l rs W) {i k:Nat} {xs:List Value} {y:Value} (hl:At l i (g,xs.toArray,T)) (hc:∀ V,Sb w (l.set i (g,(xs.set k y).toArray,T)) rs V→c V) (h:∀ V,Sb w (l.set i (g,(xs.set k y).toArray,T)) rs V→C a' V):K a' (W.setCell ⟨g,k,none⟩ y):=hK.out _ _ (hc _ (nf1 X hl)) (h _ (nf1 X hl))
theorem nf2 (X:Sb w l rs W) {i:Nat} {x0 x1 y0 y1:Value} (hl:At l i (g,#[x0,x1],T)):Sb w (l.set i (g,#[y0,y1],T)) rs ((W.setCell ⟨g,0,none⟩ y0).setCell ⟨g,1,none⟩ y1):=by have h1:=X.puts hl.get [y0,y1] (by simp [sets]);simp only [puts,Nat.reduceAdd] at h1;exact h1
theorem sf2 {M:World→Prop} (X:Sb w l rs W) {i:Nat} {x0 x1 y0 y1:Value} (hl:At l i (g,#[x0,x1],T)) (h:∀ V,Sb w (l.set i (g,#[y0,y1],T)) rs V→M V):M ((W.setCell ⟨g,0,none⟩ y0).setCell ⟨g,1,none⟩ y1):=h _ (nf2 X hl)
theorem kf2 {a':Act} {K C:Act→World→Prop} {c:World→Prop} (hK:Shut (∀ a' w',c w'→C a' w'→K a' w')) (X:Sb w l rs W) {i:Nat} {x0 x1 y0 y1:Value} (hl:At l i (g,#[x0,x1],T)) (hc:∀ V,Sb w (l.set i (g,#[y0,y1],T)) rs V→c V) (h:∀ V,Sb w (l.set i (g,#[y0,y1],T)) rs V→C a' V):K a' ((W.setCell ⟨g,0,none⟩ y0).setCell ⟨g,1,none⟩ y1):=hK.out _ _ (hc _ (nf2 X hl)) (h _ (nf2 X hl))
theorem nf4 (X:Sb w l rs W) {i:Nat} {x0 x1 x2 x3 y0 y1 y2 y3:Value} (hl:At l i (g,#[x0,x1,x2,x3],T)):Sb w (l.set i (g,#[y0,y1,y2,y3],T)) rs ((((W.setCell ⟨g,0,none⟩ y0).setCell ⟨g,1,none⟩ y1).setCell ⟨g,2,none⟩ y2).setCell ⟨g,3,none⟩ y3):=by have h1:=X.puts hl.get [y0,y1,y2,y3] (by simp [sets]);simp only [puts,Nat.reduceAdd] at h1;exact h1
theorem sf4 {M:World→Prop} (X:Sb w l rs W) {i:Nat} {x0 x1 x2 x3 y0 y1 y2 y3:Value} (hl:At l i (g,#[x0,x1,x2,x3],T)) (h:∀ V,Sb w (l.set i (g,#[y0,y1,y2,y3],T)) rs V→M V):M ((((W.setCell ⟨g,0,none⟩ y0).setCell ⟨g,1,none⟩ y1).setCell ⟨g,2,none⟩ y2).setCell ⟨g,3,none⟩ y3):=h _ (nf4 X hl)
theorem kf4 {a':Act} {K C:Act→World→Prop} {c:World→Prop} (hK:Shut (∀ a' w',c w'→C a' w'→K a' w')) (X:Sb w l rs W) {i:Nat} {x0 x1 x2 x3 y0 y1 y2 y3:Value} (hl:At l i (g,#[x0,x1,x2,x3],T)) (hc:∀ V,Sb w (l.set i (g,#[y0,y1,y2,y3],T)) rs V→c V) (h:∀ V,Sb w (l.set i (g,#[y0,y1,y2,y3],T)) rs V→C a' V):K a' ((((W.setCell ⟨g,0,none⟩ y0).setCell ⟨g,1,none⟩ y1).setCell ⟨g,2,none⟩ y2).setCell ⟨g,3,none⟩ y3):=hK.out _ _ (hc _ (nf4 X hl)) (h _ (nf4 X hl))
theorem nf9 (X:Sb w l rs W) {i:Nat} {x0 x1 x2 x3 x4 x5 x6 x7 x8 y0 y1 y2 y3 y4 y5 y6 y7 y8:Value} (hl:At l i (g,#[x0,x1,x2,x3,x4,x5,x6,x7,x8],T)):Sb w (l.set i (g,#[y0,y1,y2,y3,y4,y5,y6,y7,y8],T)) rs (((((((((W.setCell ⟨g,0,none⟩ y0).setCell ⟨g,1,none⟩ y1).setCell ⟨g,2,none⟩ y2).setCell ⟨g,3,none⟩ y3).setCell ⟨g,4,none⟩ y4).setCell ⟨g,5,none⟩ y5).setCell ⟨g,6,none⟩ y6).setCell ⟨g,7,none⟩ y7).setCell ⟨g,8,none⟩ y8):=by have h1:=X.puts hl.get [y0,y1,y2,y3,y4,y5,y6,y7,y8] (by simp [sets]);simp only [puts,Nat.reduceAdd] at h1;exact h1
theorem sf9 {M:World→Prop} (X:Sb w l rs W) {i:Nat} {x0 x1 x2 x3 x4 x5 x6 x7 x8 y0 y1 y2 y3 y4 y5 y6 y7 y8:Value} (hl:At l i (g,#[x0,x1,x2,x3,x4,x5,x6,x7,x8],T)) (h:∀ V,Sb w (l.set i (g,#[y0,y1,y2,y3,y4,y5,y6,y7,y8],T)) rs V→M V):M (((((((((W.setCell ⟨g,0,none⟩ y0).setCell ⟨g,1,none⟩ y1).setCell ⟨g,2,none⟩ y2).setCell ⟨g,3,none⟩ y3).setCell ⟨g,4,none⟩ y4).setCell ⟨g,5,none⟩ y5).setCell ⟨g,6,none⟩ y6).setCell ⟨g,7,none⟩ y7).setCell ⟨g,8,none⟩ y8):=h _ (nf9 X hl)
theorem kf9 {a':Act} {K C:Act→World→Prop} {c:World→Prop} (hK:Shut (∀ a' w',c w'→C a' w'→K a' w')) (X:Sb w l rs W) {i:Nat} {x0 x1 x2 x3 x4 x5 x6 x7 x8 y0 y1 y2 y3 y4 y5 y6 y7 y8:Value} (hl:At l i (g,#[x0,x1,x2,x3,x4,x5,x6,x7,x8],T)) (hc:∀ V,Sb w (l.set i (g,#[y0,y1,y2,y3,y4,y5,y6,y7,y8],T)) rs V→c V) (h:∀ V,Sb w (l.set i (g,#[y0,y1,y2,y3,y4,y5,y6,y7,y8],T)) rs V→C a' V):K a' (((((((((W.setCell ⟨g,0,none⟩ y0).setCell ⟨g,1,none⟩ y1).setCell ⟨g,2,none⟩ y2).setCell ⟨g,3,none⟩ y3).setCell ⟨g,4,none⟩ y4).setCell ⟨g,5,none⟩ y5).setCell ⟨g,6,none⟩ y6).setCell ⟨g,7,none⟩ y7).setCell ⟨g,8,none⟩ y8):=hK.out _ _ (hc _ (nf9 X hl)) (h _ (nf9 X hl))
theorem nf12 (X:Sb w l rs W) {i:Nat} {x0 x1 x2 x3 x4 x5 x6 x7 x8 x9 x10 x11 y0 y1 y2 y3 y4 y5 y6 y7 y8 y9 y10 y11:Value} (hl:At l i (g,#[x0,x1,x2,x3,x4,x5,x6,x7,x8,x9,x10,x11],T)):Sb w (l.set i (g,#[y0,y1,y2,y3,y4,y5,y6,y7,y8,y9,y10,y11],T)) rs ((((((((((((W.setCell ⟨g,0,none⟩ y0).setCell ⟨g,1,none⟩ y1).setCell ⟨g,2,none⟩ y2).setCell ⟨g,3,none⟩ y3).setCell ⟨g,4,none⟩ y4).setCell ⟨g,5,none⟩ y5).setCell ⟨g,6,none⟩ y6).setCell ⟨g,7,none⟩ y7).setCell ⟨g,8,none⟩ y8).setCell ⟨g,9,none⟩ y9).setCell ⟨g,10,none⟩ y10).setCell ⟨g,11,none⟩ y11):=by have h1:=X.puts hl.get [y0,y1,y2,y3,y4,y5,y6,y7,y8,y9,y10,y11] (by simp [sets]);simp only [puts,Nat.reduceAdd] at h1;exact h1
theorem sf12 {M:World→Prop} (X:Sb w l rs W) {i:Nat} {x0 x1 x2 x3 x4 x5 x6 x7 x8 x9 x10 x11 y0 y1 y2 y3 y4 y5 y6 y7 y8 y9 y10 y11:Value} (hl:At l i (g,#[x0,x1,x2,x3,x4,x5,x6,x7,x8,x9,x10,x11],T)) (h:∀ V,Sb w (l.set i (g,#[y0,y1,y2,y3,y4,y5,y6,y7,y8,y9,y10,y11],T)) rs V→M V):M ((((((((((((W.setCell ⟨g,0,none⟩ y0).setCell ⟨g,1,none⟩ y1).setCell ⟨g,2,none⟩ y2).setCell ⟨g,3,none⟩ y3).setCell ⟨g,4,none⟩ y4).setCell ⟨g,5,none⟩ y5).setCell ⟨g,6,none⟩ y6).setCell ⟨g,7,none⟩ y7).setCell ⟨g,8,none⟩ y8).setCell ⟨g,9,none⟩ y9).setCell ⟨g,10,none⟩ y10).setCell ⟨g,11,none⟩ y11):=h _ (nf12 X hl)
theorem kf12 {a':Act} {K C:Act→World→Prop} {c:World→Prop} (hK:Shut (∀ a' w',c w'→C a' w'→K a' w')) (X:Sb w l rs W) {i:Nat} {x0 x1 x2 x3 x4 x5 x6 x7 x8 x9 x10 x11 y0 y1 y2 y3 y4 y5 y6 y7 y8 y9 y10 y11:Value} (hl:At l i (g,#[x0,x1,x2,x3,x4,x5,x6,x7,x8,x9,x10,x11],T)) (hc:∀ V,Sb w (l.set i (g,#[y0,y1,y2,y3,y4,y5,y6,y7,y8,y9,y10,y11],T)) rs V→c V) (h:∀ V,Sb w (l.set i (g,#[y0,y1,y2,y3,y4,y5,y6,y7,y8,y9,y10,y11],T)) rs V→C a' V):K a' ((((((((((((W.setCell ⟨g,0,none⟩ y0).setCell ⟨g,1,none⟩ y1).setCell ⟨g,2,none⟩ y2).setCell ⟨g,3,none⟩ y3).setCell ⟨g,4,none⟩ y4).setCell ⟨g,5,none⟩ y5).setCell ⟨g,6,none⟩ y6).setCell ⟨g,7,none⟩ y7).setCell ⟨g,8,none⟩ y8).setCell ⟨g,9,none⟩ y9).setCell ⟨g,10,none⟩ y10).setCell ⟨g,11,none⟩ y11):=hK.out _ _ (hc _ (nf12 X hl)) (h _ (nf12 X hl))
theorem gs0 {M:World→Prop}  (h:∀ V,Sb w [] [] V→M V):M w:=h _ ((Sb.start w))
theorem gs1 {M:World→Prop} {c0:Array Value} {t0:TypeId} (h:∀ V,Sb w [(w.heap.size,c0,t0)] [] V→M V):M (w.alloc (.cells c0 t0)):=h _ (((Sb.start w).new c0 t0).pick [0] _ [] (by simp) (by decide) (by simp))
theorem gs2 {M:World→Prop} {c0:Array Value} {t0:TypeId} {c1:Array Value} {t1:TypeId} (h:∀ V,Sb w [(w.heap.size,c0,t0),(w.heap.size+1,c1,t1)] [] V→M V):M ((w.alloc (.cells c0 t0)).alloc (.cells c1 t1)):=h _ ((((Sb.start w).new c0 t0).new c1 t1).pick [0,1] _ [] (by simp) (by decide) (by simp))
theorem gs3 {M:World→Prop} {c0:Array Value} {t0:TypeId} {c1:Array Value} {t1:TypeId} {c2:Array Value} {t2:TypeId} (h:∀ V,Sb w [(w.heap.size,c0,t0),(w.heap.size+1,c1,t1),(w.heap.size+1+1,c2,t2)] [] V→M V):M (((w.alloc (.cells c0 t0)).alloc (.cells c1 t1)).alloc (.cells c2 t2)):=h _ (((((Sb.start w).new c0 t0).new c1 t1).new c2 t2).pick [0,1,2] _ [] (by simp) (by decide) (by simp))
theorem gs4 {M:World→Prop} {c0:Array Value} {t0:TypeId} {c1:Array Value} {t1:TypeId} {c2:Array Value} {t2:TypeId} {c3:Array Value} {t3:TypeId} (h:∀ V,Sb w [(w.heap.size,c0,t0),(w.heap.size+1,c1,t1),(w.heap.size+1+1,c2,t2),(w.heap.size+1+1+1,c3,t3)] [] V→M V):M ((((w.alloc (.cells c0 t0)).alloc (.cells c1 t1)).alloc (.cells c2 t2)).alloc (.cells c3 t3)):=h _ ((((((Sb.start w).new c0 t0).new c1 t1).new c2 t2).new c3 t3).pick [0,1,2,3] _ [] (by simp) (by decide) (by simp))
theorem gs5 {M:World→Prop} {c0:Array Value} {t0:TypeId} {c1:Array Value} {t1:TypeId} {c2:Array Value} {t2:TypeId} {c3:Array Value} {t3:TypeId} {c4:Array Value} {t4:TypeId} (h:∀ V,Sb w [(w.heap.size,c0,t0),(w.heap.size+1,c1,t1),(w.heap.size+1+1,c2,t2),(w.heap.size+1+1+1,c3,t3),(w.heap.size+1+1+1+1,c4,t4)] [] V→M V):M (((((w.alloc (.cells c0 t0)).alloc (.cells c1 t1)).alloc (.cells c2 t2)).alloc (.cells c3 t3)).alloc (.cells c4 t4)):=h _ (((((((Sb.start w).new c0 t0).new c1 t1).new c2 t2).new c3 t3).new c4 t4).pick [0,1,2,3,4] _ [] (by simp) (by decide) (by simp))
theorem gs6 {M:World→Prop} {c0:Array Value} {t0:TypeId} {c1:Array Value} {t1:TypeId} {c2:Array Value} {t2:TypeId} {c3:Array Value} {t3:TypeId} {c4:Array Value} {t4:TypeId} {c5:Array Value} {t5:TypeId} (h:∀ V,Sb w [(w.heap.size,c0,t0),(w.heap.size+1,c1,t1),(w.heap.size+1+1,c2,t2),(w.heap.size+1+1+1,c3,t3),(w.heap.size+1+1+1+1,c4,t4),(w.heap.size+1+1+1+1+1,c5,t5)] [] V→M V):M ((((((w.alloc (.cells c0 t0)).alloc (.cells c1 t1)).alloc (.cells c2 t2)).alloc (.cells c3 t3)).alloc (.cells c4 t4)).alloc (.cells c5 t5)):=h _ ((((((((Sb.start w).new c0 t0).new c1 t1).new c2 t2).new c3 t3).new c4 t4).new c5 t5).pick [0,1,2,3,4,5] _ [] (by simp) (by decide) (by simp))
end
theorem ke {w:World} (hE:Env w) {p:World→Prop} (h:∀ V,Env V→p V):Hid (∀ V,Below w.heap.size w V→p V):=Lib.hid fun V hb=>h V (hE.next hb)
theorem kn (w:World) {p:World→Prop} (h:∀ V,p V):Hid (∀ V,Below w.heap.size w V→p V):=Lib.hid fun V _=>h V

section
variable {P:Program} {ops:Array Oper} {Q:Exit→Act→World→Prop} {md:Region.Mode} {S:World→Prop} {L:List Nat} {i j k m:Nat} {o o1 o2 o3:Oper} {fuel:Nat} {listed:Array Bool} {a:Act} {w:World}
theorem four (_hf:rdy ops listed=[i,j,k,m]) (ho:ops[i]?=some o) (ho1:ops[j]?=some o1) (ho2:ops[k]?=some o2) (ho3:ops[m]?=some o3) (hr:Region.ready md ops listed=[i,j,k,m])
  (h:(∀ K':Act→World→Prop,Shut (∀ a' w',(L.contains i=true∨(S w→S w'))→wpLate P md ops Q S L fuel (listed.setIfInBounds i true) a' w'→K' a' w')→if Region.wanted o (yielded ops a.tmps)=true then Oper.wp P o a w K' Q else K' (a.put o.dst undef) w)) (h1:(∀ K':Act→World→Prop,Shut (∀ a' w',(L.contains j=true∨(S w→S w'))→wpLate P md ops Q S L fuel (listed.setIfInBounds j true) a' w'→K' a' w')→if Region.wanted o1 (yielded ops a.tmps)=true then Oper.wp P o1 a w K' Q else K' (a.put o1.dst undef) w)) (h2:(∀ K':Act→World→Prop,Shut (∀ a' w',(L.contains k=true∨(S w→S w'))→wpLate P md ops Q S L fuel (listed.setIfInBounds k true) a' w'→K' a' w')→if Region.wanted o2 (yielded ops a.tmps)=true then Oper.wp P o2 a w K' Q else K' (a.put o2.dst undef) w)) (h3:(∀ K':Act→World→Prop,Shut (∀ a' w',(L.contains m=true∨(S w→S w'))→wpLate P md ops Q S L fuel (listed.setIfInBounds m true) a' w'→K' a' w')→if Region.wanted o3 (yielded ops a.tmps)=true then Oper.wp P o3 a w K' Q else K' (a.put o3.dst undef) w)) :
  wpLate P md ops Q S L (fuel+1) listed a w:=by
 refine ⟨fun h0=>(by rw [h0] at hr;cases hr),fun n hn=>?_⟩
 rw [hr] at hn
 rcases (by simpa using hn:n=i∨n=j∨n=k∨n=m) with rfl | rfl | rfl | rfl
 · exact wpOp_step ho (fun K' hK=>h K' (fun a w hS hW=>hK a w ⟨hS,hW⟩))
 · exact wpOp_step ho1 (fun K' hK=>h1 K' (fun a w hS hW=>hK a w ⟨hS,hW⟩))
 · exact wpOp_step ho2 (fun K' hK=>h2 K' (fun a w hS hW=>hK a w ⟨hS,hW⟩))
 · exact wpOp_step ho3 (fun K' hK=>h3 K' (fun a w hS hW=>hK a w ⟨hS,hW⟩))
end
def ldB:List Oper→List Nat→List Nat
 | o :: os,k :: ks=>match o.op with
   | .load ..=>k :: ldB os ks
   | _=>ldB os ks
 | _,_=>[]
def stW (ops:Array Oper):List Nat:=(stB ops.toList ids).filter fun j=>(ldB ops.toList ids).all fun i=>waits .any ops i ops.size j
theorem late_inF {P:Program} {ops:Array Oper} {Q:Exit→Act→World→Prop} {id:Nat} {a:Act} {w W:World} {l:List (Nat×Array Value×TypeId)} {rs:List (Option Addr×Nat×Nat×Nat)} {L:List Nat} (X:Sb w l rs W) (_hL:stW ops=L) (hm:P.follows .mixedOrders=true)
 (h:∀ V,Sb w l rs V→wpLate P .any ops Q (fun V=>Sb w l [] V) L ops.size (Array.replicate ops.size false) a V):(Code.region id ops true).wp P Q a W:=wp_region_late hm (h _ X.drew)
theorem Sb.pre {w W:World} {l0 l:List (Nat×Array Value×TypeId)} {rs:List (Option Addr×Nat×Nat×Nat)} (h:Sb w l rs W) (t:List (Nat×Array Value×TypeId)) (e:l0++t=l):Sb w l0 [] W:=by
 subst e
 exact h.init
theorem wk {p:Prop} (h:p:=by
 go_wp2_with (first
  | exact Z1.out | exact Z2.out | exact Z3.out | exact Z4.out | exact Z5.out | exact Z6.out
  | ((first | (((with_reducible refine (show Calls _ _ _ _ _ from ?_));first | (with_reducible refine (C1.out _ X.out.bel).mono ?_) | (with_reducible refine (C2.out _ X.out.bel).mono ?_) | (with_reducible refine (C3.out _ X.out.bel).mono ?_) | (with_reducible refine (C4.out _ X.out.bel).mono ?_) | (with_reducible refine (C5.out _ X.out.bel).mono ?_) | (with_reducible refine (C6.out _ X.out.bel).mono ?_) | (with_reducible refine (C7.out _ X.out.bel).mono ?_) | (with_reducible refine (C8.out _ X.out.bel).mono ?_) | (with_reducible refine (C9.out _ X.out.bel).mono ?_) | (with_reducible refine (C10.out _ X.out.bel).mono ?_) | (with_reducible refine (C11.out _ X.out.bel).mono ?_) | (with_reducible refine (C12.out _ X.out.bel).mono ?_) | (with_reducible refine (C13.out _ X.out.bel).mono ?_) | (with_reducible refine (C14.out _ X.out.bel).mono ?_) | (with_reducible refine (C15.out _ X.out.bel).mono ?_) | (with_reducible refine (C16.out _ X.out.bel).mono ?_) | (with_reducible refine (C17.out _ X.out.bel).mono ?_) | (with_reducible refine (C18.out _ X.out.bel).mono ?_) | (with_reducible refine (C19.out _ X.out.bel).mono ?_) | (with_reducible refine (C20.out _ X.out.bel).mono ?_) | (with_reducible refine (C1.out _ X.out.bel (by first | assumption | omega)).mono ?_) | (with_reducible refine (C2.out _ X.out.bel (by first | assumption | omega)).mono ?_) | (with_reducible refine (C3.out _ X.out.bel (by first | assumption | omega)).mono ?_) | (with_reducible refine (C4.out _ X.out.bel (by first | assumption | omega)).mono ?_) | (with_reducible refine (C5.out _ X.out.bel (by first | assumption | omega)).mono ?_) | (with_reducible refine (C6.out _ X.out.bel (by first | assumption | omega)).mono ?_) | (with_reducible refine (C7.out _ X.out.bel (by first | assumption | omega)).mono ?_) | (with_reducible refine (C8.out _ X.out.bel (by first | assumption | omega)).mono ?_) | (with_reducible refine (C9.out _ X.out.bel (by first | assumption | omega)).mono ?_) | (with_reducible refine (C10.out _ X.out.bel (by first | assumption | omega)).mono ?_) | (with_reducible refine (C11.out _ X.out.bel (by first | assumption | omega)).mono ?_) | (with_reducible refine (C12.out _ X.out.bel (by first | assumption | omega)).mono ?_) | (with_reducible refine (C13.out _ X.out.bel (by first | assumption | omega)).mono ?_) | (with_reducible refine (C14.out _ X.out.bel (by first | assumption | omega)).mono ?_) | (with_reducible refine (C15.out _ X.out.bel (by first | assumption | omega)).mono ?_) | (with_reducible refine (C16.out _ X.out.bel (by first | assumption | omega)).mono ?_) | (with_reducible refine (C17.out _ X.out.bel (by first | assumption | omega)).mono ?_) | (with_reducible refine (C18.out _ X.out.bel (by first | assumption | omega)).mono ?_) | (with_reducible refine (C19.out _ X.out.bel (by first | assumption | omega)).mono ?_) | (with_reducible refine (C20.out _ X.out.bel (by first | assumption | omega)).mono ?_));rintro e u ⟨rfl,hb9⟩;have X0:=X.out.next hb9;clear hb9) | (with_reducible refine an X.out (fun V X0=>?_)) | (with_reducible refine sf2 X.out (by repeat (with_reducible first | exact At.here | exact At.last | apply At.there | apply At.left)) (fun V X0=>?_)) | (with_reducible refine sf4 X.out (by repeat (with_reducible first | exact At.here | exact At.last | apply At.there | apply At.left)) (fun V X0=>?_)) | (with_reducible refine sf9 X.out (by repeat (with_reducible first | exact At.here | exact At.last | apply At.there | apply At.left)) (fun V X0=>?_)) | (with_reducible refine sf12 X.out (by repeat (with_reducible first | exact At.here | exact At.last | apply At.there | apply At.left)) (fun V X0=>?_)) | (with_reducible refine sf1 X.out (by repeat (with_reducible first | exact At.here | exact At.last | apply At.there | apply At.left)) (fun V X0=>?_)));(try simp only [List.set_cons_zero,List.set_cons_succ,List.cons_append,List.nil_append,List.length_cons,List.length_nil] at X0);replace X:=Lib.hid X0;clear X0;replace F:=X.out.facts;simp only [Facts,cellsAt,List.take_succ_cons,List.take_zero,Nat.reduceAdd,and_true,List.set_cons_succ,List.set_cons_zero,List.cons_append,List.nil_append] at F)
  | exact U1.out | exact U2.out | exact U3.out | exact U4.out | exact U5.out | exact U6.out
  | (with_reducible refine late_inF X.out rfl ?_ ?_
     kernel_rfl
     intro V X0
     replace X:=Lib.hid X0
     clear X0 F
     repeat' (first
      | ((first
        | refine tkF (oi:=⟨some _,_,_,_,_,_⟩) rfl rfl (by kernel_rfl) (fun _ _ _ h=>h) (Or.inl ⟨by rfl,by intro w' _;first | (go_simp;done) | (go_simp;with_reducible rfl)⟩) ?_
        | refine tkN (oi:=⟨some _,_,_,_,_,_⟩) rfl rfl (by decide +kernel) (fun _ _ _ h=>h) (by first | exact X.out.pre _ rfl | exact X.out.bare | exact X.out.init | exact X.out.init2 | exact X.out.init3) (Or.inl ⟨by rfl,by intro w' hSw;have F:=hSw.facts;simp only [Facts,cellsAt,List.take_succ_cons,List.take_zero,Nat.reduceAdd,and_true,List.set_cons_succ,List.set_cons_zero,List.cons_append,List.nil_append] at F;first | (go_simp;done) | (go_simp;with_reducible rfl)⟩) ?_
        | refine tkG (oi:=⟨_,_,_,_,_,_⟩) rfl rfl (by kernel_rfl) (fun _ _ _ h=>h) (by rfl) ?_)
         (try simp only [Act.put,seti,set0,setS]))
      | ((first | refine one (o := ⟨_, _, _, _, _, _⟩) rfl rfl (by kernel_rfl) (fun K hK => ?_) | refine two (o := ⟨_, _, _, _, _, _⟩) (o' := ⟨_, _, _, _, _, _⟩) rfl rfl rfl (by kernel_rfl) (fun K hK => ?_) (fun K hK => ?_) | refine three (o := ⟨_, _, _, _, _, _⟩) (o' := ⟨_, _, _, _, _, _⟩) (o'' := ⟨_, _, _, _, _, _⟩) rfl rfl rfl rfl (by kernel_rfl) (fun K hK => ?_) (fun K hK => ?_) (fun K hK => ?_) | refine four (o := ⟨_, _, _, _, _, _⟩) (o1 := ⟨_, _, _, _, _, _⟩) (o2 := ⟨_, _, _, _, _, _⟩) (o3 := ⟨_, _, _, _, _, _⟩) rfl rfl rfl rfl rfl (by kernel_rfl) (fun K hK => ?_) (fun K hK => ?_) (fun K hK => ?_) (fun K hK => ?_))
         all_goals (have F:=X.out.facts;simp only [Facts,cellsAt,List.take_succ_cons,List.take_zero,Nat.reduceAdd,and_true,List.set_cons_succ,List.set_cons_zero,List.cons_append,List.nil_append] at F;go_simp;clear F;first
          | exact Y1.out | exact Y2.out
          | (((with_reducible refine (show Calls _ _ _ _ _ from ?_));first | (with_reducible refine (C1.out _ X.out.bel).mono ?_) | (with_reducible refine (C2.out _ X.out.bel).mono ?_) | (with_reducible refine (C3.out _ X.out.bel).mono ?_) | (with_reducible refine (C4.out _ X.out.bel).mono ?_) | (with_reducible refine (C5.out _ X.out.bel).mono ?_) | (with_reducible refine (C6.out _ X.out.bel).mono ?_) | (with_reducible refine (C7.out _ X.out.bel).mono ?_) | (with_reducible refine (C8.out _ X.out.bel).mono ?_) | (with_reducible refine (C9.out _ X.out.bel).mono ?_) | (with_reducible refine (C10.out _ X.out.bel).mono ?_) | (with_reducible refine (C11.out _ X.out.bel).mono ?_) | (with_reducible refine (C12.out _ X.out.bel).mono ?_) | (with_reducible refine (C13.out _ X.out.bel).mono ?_) | (with_reducible refine (C14.out _ X.out.bel).mono ?_) | (with_reducible refine (C15.out _ X.out.bel).mono ?_) | (with_reducible refine (C16.out _ X.out.bel).mono ?_) | (with_reducible refine (C17.out _ X.out.bel).mono ?_) | (with_reducible refine (C18.out _ X.out.bel).mono ?_) | (with_reducible refine (C19.out _ X.out.bel).mono ?_) | (with_reducible refine (C20.out _ X.out.bel).mono ?_) | (with_reducible refine (C1.out _ X.out.bel (by first | assumption | omega)).mono ?_) | (with_reducible refine (C2.out _ X.out.bel (by first | assumption | omega)).mono ?_) | (with_reducible refine (C3.out _ X.out.bel (by first | assumption | omega)).mono ?_) | (with_reducible refine (C4.out _ X.out.bel (by first | assumption | omega)).mono ?_) | (with_reducible refine (C5.out _ X.out.bel (by first | assumption | omega)).mono ?_) | (with_reducible refine (C6.out _ X.out.bel (by first | assumption | omega)).mono ?_) | (with_reducible refine (C7.out _ X.out.bel (by first | assumption | omega)).mono ?_) | (with_reducible refine (C8.out _ X.out.bel (by first | assumption | omega)).mono ?_) | (with_reducible refine (C9.out _ X.out.bel (by first | assumption | omega)).mono ?_) | (with_reducible refine (C10.out _ X.out.bel (by first | assumption | omega)).mono ?_) | (with_reducible refine (C11.out _ X.out.bel (by first | assumption | omega)).mono ?_) | (with_reducible refine (C12.out _ X.out.bel (by first | assumption | omega)).mono ?_) | (with_reducible refine (C13.out _ X.out.bel (by first | assumption | omega)).mono ?_) | (with_reducible refine (C14.out _ X.out.bel (by first | assumption | omega)).mono ?_) | (with_reducible refine (C15.out _ X.out.bel (by first | assumption | omega)).mono ?_) | (with_reducible refine (C16.out _ X.out.bel (by first | assumption | omega)).mono ?_) | (with_reducible refine (C17.out _ X.out.bel (by first | assumption | omega)).mono ?_) | (with_reducible refine (C18.out _ X.out.bel (by first | assumption | omega)).mono ?_) | (with_reducible refine (C19.out _ X.out.bel (by first | assumption | omega)).mono ?_) | (with_reducible refine (C20.out _ X.out.bel (by first | assumption | omega)).mono ?_));rintro e u ⟨rfl,hb9⟩;(try go_wp2_with fail);refine kx hK (X.out.next hb9) ?_ ?_;(intro V X;first | exact Or.inr fun _=>X.bare | exact Or.inr fun _=>X.init | exact Or.inr fun _=>X.pre _ rfl | exact Or.inl (by decide +kernel) | exact Or.inr fun _=>X.init2 | exact Or.inr fun _=>X.init3);intro V X0;clear hb9)
          | ((with_reducible refine ka hK X.out ?_ ?_);(intro V X;first | exact Or.inr fun _=>X.bare | exact Or.inr fun _=>X.init | exact Or.inr fun _=>X.pre _ rfl | exact Or.inl (by decide +kernel) | exact Or.inr fun _=>X.init2 | exact Or.inr fun _=>X.init3);intro V X0)
          | ((with_reducible refine kf1 hK X.out (by repeat (with_reducible first | exact At.here | exact At.last | apply At.there | apply At.left)) ?_ ?_);(intro V X;first | exact Or.inl (by decide +kernel) | ((try simp only [List.set_cons_zero,List.set_cons_succ,List.cons_append,List.nil_append,List.length_cons,List.length_nil] at X);exact Or.inr fun _=>X.pre _ rfl));intro V X0;(try simp only [List.set_cons_zero,List.set_cons_succ,List.cons_append,List.nil_append,List.length_cons,List.length_nil] at X0))
          | ((with_reducible refine kf2 hK X.out (by repeat (with_reducible first | exact At.here | exact At.last | apply At.there | apply At.left)) ?_ ?_);(intro V X;first | exact Or.inl (by decide +kernel) | ((try simp only [List.set_cons_zero,List.set_cons_succ,List.cons_append,List.nil_append,List.length_cons,List.length_nil] at X);exact Or.inr fun _=>X.pre _ rfl));intro V X0;(try simp only [List.set_cons_zero,List.set_cons_succ,List.cons_append,List.nil_append,List.length_cons,List.length_nil] at X0))
          | ((with_reducible refine kf4 hK X.out (by repeat (with_reducible first | exact At.here | exact At.last | apply At.there | apply At.left)) ?_ ?_);(intro V X;first | exact Or.inl (by decide +kernel) | ((try simp only [List.set_cons_zero,List.set_cons_succ,List.cons_append,List.nil_append,List.length_cons,List.length_nil] at X);exact Or.inr fun _=>X.pre _ rfl));intro V X0;(try simp only [List.set_cons_zero,List.set_cons_succ,List.cons_append,List.nil_append,List.length_cons,List.length_nil] at X0))
          | ((with_reducible refine kf9 hK X.out (by repeat (with_reducible first | exact At.here | exact At.last | apply At.there | apply At.left)) ?_ ?_);(intro V X;first | exact Or.inl (by decide +kernel) | ((try simp only [List.set_cons_zero,List.set_cons_succ,List.cons_append,List.nil_append,List.length_cons,List.length_nil] at X);exact Or.inr fun _=>X.pre _ rfl));intro V X0;(try simp only [List.set_cons_zero,List.set_cons_succ,List.cons_append,List.nil_append,List.length_cons,List.length_nil] at X0))
          | ((with_reducible refine kf12 hK X.out (by repeat (with_reducible first | exact At.here | exact At.last | apply At.there | apply At.left)) ?_ ?_);(intro V X;first | exact Or.inl (by decide +kernel) | ((try simp only [List.set_cons_zero,List.set_cons_succ,List.cons_append,List.nil_append,List.length_cons,List.length_nil] at X);exact Or.inr fun _=>X.pre _ rfl));intro V X0;(try simp only [List.set_cons_zero,List.set_cons_succ,List.cons_append,List.nil_append,List.length_cons,List.length_nil] at X0))
          | ((with_reducible refine hK.out _ _ (Or.inr fun h=>h) ?_);have X0:=X.out)
          | ((with_reducible refine kx hK X.out ?_ ?_);(intro V X;first | exact Or.inr fun _=>X.bare | exact Or.inr fun _=>X.init | exact Or.inr fun _=>X.pre _ rfl | exact Or.inl (by decide +kernel) | exact Or.inr fun _=>X.init2 | exact Or.inr fun _=>X.init3);intro V X0))
         all_goals (clear hK K;replace X:=Lib.hid X0;clear X0;(try simp only [Act.put,seti,set0,setS])))
      | refine done rfl (by kernel_rfl) ?_ _)
     all_goals (have F:=X.out.facts;simp only [Facts,cellsAt,List.take_succ_cons,List.take_zero,Nat.reduceAdd,and_true,List.set_cons_succ,List.set_cons_zero,List.cons_append,List.nil_append] at F))
  | ((with_reducible refine (show Met _ _ _ from ?_));go_meet;subst hLL;first | exact ⟨_,rfl,X.out⟩ | exact ⟨_,_,rfl,rfl,X.out⟩ | exact M1.out)
  | ((with_reducible refine (show bodyPost _ _ _ _ _ _ from ?_));first | exact E1.out | exact E2.out | exact E3.out | exact E4.out | (go_ret;exact ⟨rfl,X.out.bel⟩) | (go_ret;refine ⟨?_,X.out.bel⟩;first | (rw [P1.out (by assumption) (by assumption) (by assumption)];rfl;done) | (rw [P1.out (by assumption) (by assumption)];rfl;done) | (rw [P1.out (by assumption)];rfl;done) | (rw [P2.out (by assumption) (by assumption) (by assumption)];rfl;done) | (rw [P2.out (by assumption) (by assumption)];rfl;done) | (rw [P2.out (by assumption)];rfl;done) | (rw [P3.out (by assumption) (by assumption) (by assumption)];rfl;done) | (rw [P3.out (by assumption) (by assumption)];rfl;done) | (rw [P3.out (by assumption)];rfl;done) | (rw [P4.out (by assumption) (by assumption) (by assumption)];rfl;done) | (rw [P4.out (by assumption) (by assumption)];rfl;done) | (rw [P4.out (by assumption)];rfl;done)) | exact bodyPost_ret (by simp [results,RS.out,go_sem,F]) rfl ⟨rfl,X.out.bel⟩))):p:=h
theorem wk0 {p:Prop} (h:p:=by
 go_upto_region 1 with fail
 first | (with_reducible refine gs6 (M:=fun W=>Code.wp _ _ _ _ W) (fun V X0=>?_)) | (with_reducible refine gs5 (M:=fun W=>Code.wp _ _ _ _ W) (fun V X0=>?_)) | (with_reducible refine gs4 (M:=fun W=>Code.wp _ _ _ _ W) (fun V X0=>?_)) | (with_reducible refine gs3 (M:=fun W=>Code.wp _ _ _ _ W) (fun V X0=>?_)) | (with_reducible refine gs2 (M:=fun W=>Code.wp _ _ _ _ W) (fun V X0=>?_)) | (with_reducible refine gs1 (M:=fun W=>Code.wp _ _ _ _ W) (fun V X0=>?_)) | (with_reducible refine gs0 (M:=fun W=>Code.wp _ _ _ _ W) (fun V X0=>?_))
 have X:=Lib.hid X0
 clear X0
 have F:=X.out.facts
 simp only [Facts,cellsAt,List.take_succ_cons,List.take_zero,Nat.reduceAdd,and_true,List.set_cons_succ,List.set_cons_zero,List.cons_append,List.nil_append] at F
 exact wk):p:=h
theorem wkc {p:Prop} (h:p:=by
 (try ((first | obtain ⟨g,g',g'',rfl,rfl,rfl,hX⟩:=hcut | obtain ⟨g,g',rfl,rfl,hX⟩:=hcut | obtain ⟨g,rfl,hX⟩:=hcut);subst hLL;(try simp only [List.cons_append,List.nil_append] at hX);replace X:=Lib.hid hX;clear hX;replace F:=X.out.facts;simp only [Facts,cellsAt,List.take_succ_cons,List.take_zero,Nat.reduceAdd,and_true,List.set_cons_succ,List.set_cons_zero,List.cons_append,List.nil_append] at F))
 exact wk):p:=h
end Go.Proofs.YtpnokfgplnmjpaaGreatDoor


namespace Go.Proofs.YtpnokfgplnmjpaaGreatDoor
open Go.RowKit
attribute [local go_sem ↓] Go.wp_at_zero Go.wp_at_succ

set_option maxHeartbeats 4000000 in
set_option maxRecDepth 100000 in
theorem ratFloor_f {p:Rat} {b bz:Bool} {m k mz:ByteArray} (h:Rq p b m k) (hz:enc (p.num / (p.den:Int))=.agg #[.bool bz,.string mz]) (s1:m.size≤100000) (s2:(mag p.den).size≤100000) (w:World) :
  Calls Tryz.prog 93 #[.agg #[.bool b,.string m,.bool false,.string k]] w (RetB w (.agg #[.bool bz,.string mz])):=by
 by_cases hden:p.den=1
 · obtain rfl:=h.den1 hden
   have hn:=h.num
   rw [hden,show (((1:Nat):Int))=1 from rfl,Int.ediv_one,hn] at hz
   obtain ⟨rfl,rfl⟩:b=bz∧m=mz:=by cases hz;exact ⟨rfl,rfl⟩
   have X:=Lib.hid (((Sb.start w).new #[.bool b,.string m,.bool false,.string ⟨#[]⟩] 25).new #[.bool false,.string ⟨#[]⟩] 23)
   have X:=Lib.hid (X.out.pick [0,1] [(w.heap.size,#[.bool b,.string m,.bool false,.string ⟨#[]⟩],25),(w.heap.size+1,#[.bool false,.string ⟨#[]⟩],23)] [] (by simp) (by decide) (by simp))
   clear h hz hden hn s2
   go_enter Tryz.func93,Tryz.ntmps93
   obtain ⟨a0,a1,a2,a3⟩:=X.out.c4 (i:=0) rfl
   go_wp2_with fail
   refine (isInteger_yes b m _).mono ?_
   rintro e u1 ⟨rfl,hb9⟩
   have X:=Lib.hid (X.out.next hb9)
   clear hb9
   clear a0 a1 a2 a3
   obtain ⟨a0,a1,a2,a3⟩:=X.out.c4 (i:=0) rfl
   obtain ⟨x0,x1⟩:=X.out.c2 (i:=1) rfl
   obtain ⟨y0,y1⟩:=X.out.f2 (i:=1) rfl
   go_wp2
   have X:=Lib.hid (X.out.set2 (i:=1) rfl (.bool b) (.string m))
   obtain ⟨p0,p1⟩:=X.out.c2 (i:=1) rfl
   exact bodyPost_ret (v:=.agg #[.bool b,.string m]) (by simp [results,Tryz.results93,go_sem,p0,p1]) rfl ⟨rfl,X.out.bel⟩
 · obtain rfl:=h.den2 hden
   have HNO:=Lib.hid (isInteger_no b m (mag p.den) (mag_no_nil p.den_nz))
   obtain ⟨br,mr,hr⟩:=enc_form (p.num%(p.den:Int))
   have hd0:=p.den_nz
   have HDM:=Lib.hid (fun V=>divMod_f h.num (enc_mag p.den) (by omega) (by omega) (by omega) hz hr rfl rfl V)
   generalize Go.Proofs.YtpnokfgplnmjpaaGreatDoor.mag p.den=k at *
   have X:=Lib.hid (((Sb.start w).new #[.bool b,.string m,.bool false,.string k] 25).new #[.bool false,.string ⟨#[]⟩] 23)
   have X:=Lib.hid (X.out.pick [0,1] [(w.heap.size,#[.bool b,.string m,.bool false,.string k],25),(w.heap.size+1,#[.bool false,.string ⟨#[]⟩],23)] [] (by simp) (by decide) (by simp))
   clear h hz hden hr hd0 s1 s2
   go_enter Tryz.func93,Tryz.ntmps93
   obtain ⟨a0,a1,a2,a3⟩:=X.out.c4 (i:=0) rfl
   go_wp2_with fail
   refine (HNO.out _).mono ?_
   rintro e u1 ⟨rfl,hb9⟩
   have X:=Lib.hid (X.out.next hb9)
   clear hb9
   clear a0 a1 a2 a3
   obtain ⟨a0,a1,a2,a3⟩:=X.out.c4 (i:=0) rfl
   go_wp2_with fail
   refine (HDM.out _).mono ?_
   rintro e u2 ⟨rfl,hb9⟩
   have X:=Lib.hid (X.out.next hb9)
   clear hb9
   clear a0 a1 a2 a3
   go_upto_region 4 with fail
   have X:=Lib.hid ((X.out.new #[.bool bz,.string mz] 23).new #[.bool br,.string mr] 23)
   obtain ⟨W1,hV⟩:=wexi X.out
   rw [←hV] at X ⊢
   clear hV
   obtain ⟨a0,a1⟩:=X.out.c2 (i:=2) rfl
   obtain ⟨x0,x1⟩:=X.out.c2 (i:=1) rfl
   obtain ⟨y0,y1⟩:=X.out.f2 (i:=1) rfl
   go_wp2
   have X:=Lib.hid (X.out.set2 (i:=1) rfl (.bool bz) (.string mz))
   obtain ⟨p0,p1⟩:=X.out.c2 (i:=1) rfl
   exact bodyPost_ret (v:=.agg #[.bool bz,.string mz]) (by simp [results,Tryz.results93,go_sem,p0,p1]) rfl ⟨rfl,X.out.bel⟩

end Go.Proofs.YtpnokfgplnmjpaaGreatDoor
