import Derived.Test.YtpnokfgplnmjpaaGreatDoorGPk
import Derived.Test.YtpnokfgplnmjpaaGreatDoorGRCA
set_option linter.unusedSimpArgs false
set_option linter.unusedVariables false
set_option maxRecDepth 100000
set_option maxHeartbeats 32000000
open Go.Lib (hid)
open Go.Proofs.Tryz (prog)
namespace Go.Proofs.YtpnokfgplnmjpaaGreatDoor
open Go.RowKit
attribute [local go_sem ↓] Go.wp_at_zero Go.wp_at_succ
theorem rAdd_same {p q:Rat} {b1 b3:Bool} {m1 m2 m3 k1 k2 k3:ByteArray} (hp:Rq p b1 m1 k1) (hq:Rq q b1 m2 k2) (hr':Rq (mkRat (sgn b1 ((p.num.natAbs*q.den)+(q.num.natAbs*p.den))) (p.den*q.den)) b3 m3 k3)  (s1:m1.size≤10000) (s2:m2.size≤10000) (s3:(mag p.den).size≤10000) (s4:(mag q.den).size≤10000) (w:World) :
  Calls prog 77 #[.agg #[.bool b1,.string m1,.bool false,.string k1],.agg #[.bool b1,.string m2,.bool false,.string k2]] w (RetB w (.agg #[.bool b3,.string m3,.bool false,.string k3])):=by
 have ks:∀ {x:Rat} {b:Bool} {m k:ByteArray},Rq x b m k→(mag x.den).size≤10000→k.size≤10000:=fun {x b m k} h hs=>by
  exact k43
 have HF1:=hid (fun V=>rof2 hp om (by have:=ks hp s3;omega) V);have HF2:=hid (fun V=>rof2 hq om (by have:=ks hq s4;omega) V);have n0:nd p.num.natAbs≤10000:=by unfold nd;rw [←hp.mag.2];exact s1
 have n1:nd p.den≤10000:=s3;have n2:nd q.num.natAbs≤10000:=by unfold nd;rw [←hq.mag.2];exact s2
 have n3:nd q.den≤10000:=s4;have n4:nd (p.num.natAbs*q.den)≤20000:=by have:=nd_mul p.num.natAbs q.den;omega
 have n5:nd (q.num.natAbs*p.den)≤20000:=by have:=nd_mul q.num.natAbs p.den;omega
 have n6:nd (p.den*q.den)≤20000:=by have:=nd_mul p.den q.den;omega
 have n7:nd ((p.num.natAbs*q.den)+(q.num.natAbs*p.den))≤30000:=by have:=nd_add (p.num.natAbs*q.den) (q.num.natAbs*p.den);omega
 have hcn:∀ (A B:Option Addr) (n m c d:Nat) (V:World),Tr V A n c ((p.num.natAbs*q.den)+(q.num.natAbs*p.den))→Tr V B m d (p.den*q.den)→Calls prog 123 #[.agg #[.bool b1,.slice A n c,.slice B m d]] V (RetB V (.agg #[.bool b3,.string m3,.bool false,.string k3])):=by
  intro A B n m c d V hA hB;refine (rcanonical b1 A B n m c d _ _ V (by have:=hA.ln;omega) (by have:=hB.ln;omega) hA hB (Nat.mul_pos p.den_pos q.den_pos)).mono ?_;exact k45
 have HN0:=hid n0;have HN1:=hid n1;have HN2:=hid n2;have HN3:=hid n3;have HN4:=hid n4;have HN5:=hid n5;have HCN:=hid hcn;have X:=hid ((((Sb.start w).new #[.bool b1,.string m1,.bool false,.string k1] 25).new #[.bool b1,.string m2,.bool false,.string k2] 25).new #[.bool false,.string ⟨#[]⟩,.bool false,.string ⟨#[]⟩] 25);have X:=hid (X.out.pick [0,1,2] [(w.heap.size,#[.bool b1,.string m1,.bool false,.string k1],25),(w.heap.size+1,#[.bool b1,.string m2,.bool false,.string k2],25),(w.heap.size+1+1,#[.bool false,.string ⟨#[]⟩,.bool false,.string ⟨#[]⟩],25)] [] (by simp) dc (by simp));clear hp hq hr' hcn n0 n1 n2 n3 n4 n5 n6 n7 s1 s2 s3 s4 ks;go_enter Tryz.func77,Tryz.ntmps77;go_upto_region 1 with fail
 go_cut [5,6] (fun s5 s6 wx=>∃ g5 g6 A1 n1 c1 B1 x1 d1 A3 n3 c3 B3 x3 d3,s5=.pointer (some ⟨g5,0,none⟩)∧s6=.pointer (some ⟨g6,0,none⟩)∧Sb w [(w.heap.size+1+1,#[.bool false,.string ⟨#[]⟩,.bool false,.string ⟨#[]⟩],25),(g5,#[.bool b1,.slice A1 n1 c1,.slice B1 x1 d1],110),(g6,#[.bool b1,.slice A3 n3 c3,.slice B3 x3 d3],110)] [(A1,n1,c1,p.num.natAbs),(B1,x1,d1,p.den),(A3,n3,c3,q.num.natAbs),(B3,x3,d3,q.den)] wx)
 case first =>
  refine wp_region_any kx ?_;have X:=hid X.out.drew;obtain ⟨W0,hV⟩:=wexi X.out;rw [show ∀ v:World,{ v with drawn:=v.drawn+1 }=v.drew from fun _=>rfl,←hV];rw [←hV] at X;clear hV;refine rg_run (ef:=[.val (.agg #[.bool b1,.string m1,.bool false,.string k1]),.rel (FracP b1 p.num.natAbs p.den),.val (.agg #[.bool b1,.string m2,.bool false,.string k2]),.rel (FracP b1 q.num.natAbs q.den),.new #[.bool false,.slice none 0 0,.slice none 0 0] 110,.new #[.bool false,.slice none 0 0,.slice none 0 0] 110]) (ds:=[10,11,12,13,5,6]) kx (stays_of (List.forall_mem_cons.2 ⟨trivial,(List.forall_mem_cons.2 ⟨fine_frac _ _ _,(List.forall_mem_cons.2 ⟨trivial,(List.forall_mem_cons.2 ⟨fine_frac _ _ _,(List.forall_mem_cons.2 ⟨trivial,(List.forall_mem_cons.2 ⟨trivial,(fun _ h=>by simp at h)⟩)⟩)⟩)⟩)⟩)⟩)) dc rfl (by intro d hd;simp at hd ⊢;omega) (fun i d o hd ho listed a w1 hR hdep K hK=>?_) 2 (fun a w1 hR=>?_)
  · have X:=hid (X.out.next hR.bel);have HKt:=hid hK;have HDp:=hid hdep;have sl2:a.tmps.getD 2 undef=.pointer (some ⟨w.heap.size,0,none⟩):=hR.keep 2 dc;have sl3:a.tmps.getD 3 undef=.pointer (some ⟨w.heap.size+1,0,none⟩):=hR.keep 3 dc;have HRg:=hid hR;clear hK hdep hR;rcases i with _ | _ | _ | _ | _ | _ | i
    · exact k9
    · cases hd;cases ho;have dd0:a.tmps.getD 10 undef=.agg #[.bool b1,.string m1,.bool false,.string k1]:=HRg.out.val 0 _ (HDp.out 0 dc) rfl;go_simp
      (go_at_call 119;refine (HF1.out _).mono ?_;rintro e u ⟨A9,n9,c9,B9,m9,d9,rfl,hT9,hU9,hb9,_,_⟩)
      exact k23
    · exact k9
    · cases hd;cases ho;have dd2:a.tmps.getD 12 undef=.agg #[.bool b1,.string m2,.bool false,.string k2]:=HRg.out.val 2 _ (HDp.out 2 dc) rfl;go_simp
      (go_at_call 119;refine (HF2.out _).mono ?_;rintro e u ⟨A9,n9,c9,B9,m9,d9,rfl,hT9,hU9,hb9,_,_⟩)
      exact k23
    · exact k15
    · exact k15
    · cases hd
  obtain ⟨g4,hg4,lg4,kg4⟩:=hR.new 4 _ _ (by rfl) rfl;obtain ⟨g5,hg5,lg5,kg5⟩:=hR.new 5 _ _ (by rfl) rfl;have vv0:a.tmps.getD 10 undef=.agg #[.bool b1,.string m1,.bool false,.string k1]:=hR.val 0 _ (by rfl) rfl;obtain ⟨A1,n1,c1,B1,m1,d1,vv1,hT1,hU1⟩:=hR.rel 1 _ (by rfl) rfl;replace vv1:a.tmps.getD 11 undef=.agg #[.bool b1,.slice A1 n1 c1,.slice B1 m1 d1]:=vv1;have vv2:a.tmps.getD 12 undef=.agg #[.bool b1,.string m2,.bool false,.string k2]:=hR.val 2 _ (by rfl) rfl;obtain ⟨A3,n3,c3,B3,m3,d3,vv3,hT3,hU3⟩:=hR.rel 3 _ (by rfl) rfl;replace vv3:a.tmps.getD 13 undef=.agg #[.bool b1,.slice A3 n3 c3,.slice B3 m3 d3]:=vv3;replace hg4:a.tmps.getD 5 undef=.pointer (some ⟨g4,0,none⟩):=hg4;replace hg5:a.tmps.getD 6 undef=.pointer (some ⟨g5,0,none⟩):=hg5;have hne:g4≠g5:=fun e=>hR.ne 4 5 _ _ _ _ g4 dc (by rfl) (by rfl) rfl rfl hg4 (by rw [e];exact hg5)
  have X:=hid (X.out.add2 hR.bel lg4 kg4 lg5 kg5 hne);have X:=hid (X.out.rows [(A1,n1,c1,p.num.natAbs),(B1,m1,d1,p.den),(A3,n3,c3,q.num.natAbs),(B3,m3,d3,q.den)] (List.forall_mem_cons.2 ⟨hT1,List.forall_mem_cons.2 ⟨hU1,(List.forall_mem_cons.2 ⟨hT3,List.forall_mem_cons.2 ⟨hU3,(fun _ h=>by simp at h)⟩⟩)⟩⟩) (by intro x hx;simp at hx;rcases hx with rfl | rfl | rfl | rfl | rfl<;>(intro j k n;rcases j with _ | _ | _ | _ | _ | j<;>simp)));have ha:=hR.act;simp only [List.foldl_cons,List.foldl_nil,seti,set0,setS,vv0,vv1,vv2,vv3,hg4,hg5] at ha;subst ha;clear hR vv0 vv1 vv2 vv3 hg4 lg4 kg4 hg5 lg5 kg5 hne;refine wpAny_of_late (S:=fun _=>True) (L:=[]) _ _ _ _ ?_;refine wpLate_one (i:=6) (o:=⟨none,_,_,_,_,_⟩) kx rfl (fun K hK=>?_);obtain ⟨x0,x1,x2⟩:=X.out.c3 (i:=3) rfl;obtain ⟨y0,y1,y2⟩:=X.out.f3 (i:=3) rfl;have X:=hid (X.out.set3 (i:=3) rfl (.bool b1) (.slice A1 n1 c1) (.slice B1 m1 d1));go_simp;refine hK.out _ _ (Or.inr fun _=>trivial) ?_;clear hK K x0 x1 x2 y0 y1 y2;obtain ⟨W6,hV⟩:=wexi X.out;rw [←hV] at X ⊢;clear hV;try simp only [Act.put]
  refine wpLate_one (i:=7) (o:=⟨none,_,_,_,_,_⟩) kx rfl (fun K hK=>?_);obtain ⟨x0,x1,x2⟩:=X.out.c3 (i:=4) rfl;obtain ⟨y0,y1,y2⟩:=X.out.f3 (i:=4) rfl;have X:=hid (X.out.set3 (i:=4) rfl (.bool b1) (.slice A3 n3 c3) (.slice B3 m3 d3));go_simp;refine hK.out _ _ (Or.inr fun _=>trivial) ?_;clear hK K x0 x1 x2 y0 y1 y2;obtain ⟨W7,hV⟩:=wexi X.out;rw [←hV] at X ⊢;clear hV;try simp only [Act.put]
  refine wpLate_done kx ?_ _;go_wp2_with fail
  go_meet;exact ⟨_,_,_,_,_,_,_,_,_,_,_,_,_,_,rfl,rfl,X.out.pick [2,3,4] _ _ rfl dc (fun _ h=>h)⟩
 obtain ⟨g5,g6,A1,n1,c1,B1,x1,d1,A3,n3,c3,B3,x3,d3,rfl,rfl,hX⟩:=hcut;have X:=hid hX;clear hX;go_upto_region 2 with fail
 go_cut [7,8] (fun s7 s8 wx=>∃ A5 n5 c5 A6 n6 c6,s7=.slice A5 n5 c5∧s8=.slice A6 n6 c6∧Sb w [(w.heap.size+1+1,#[.bool false,.string ⟨#[]⟩,.bool false,.string ⟨#[]⟩],25),(g5,#[.bool b1,.slice A1 n1 c1,.slice B1 x1 d1],110),(g6,#[.bool b1,.slice A3 n3 c3,.slice B3 x3 d3],110)] [(A1,n1,c1,p.num.natAbs),(B1,x1,d1,p.den),(A3,n3,c3,q.num.natAbs),(B3,x3,d3,q.den),(A5,n5,c5,(p.num.natAbs*q.den)),(A6,n6,c6,(q.num.natAbs*p.den))] wx)
 case first =>
  refine wp_region_late (S:=fun w'=>(w'.cell? ⟨g5,0,none⟩=some (.bool b1)∧w'.cell? ⟨g5,1,none⟩=some (.slice A1 n1 c1)∧w'.cell? ⟨g5,2,none⟩=some (.slice B1 x1 d1))∧(w'.cell? ⟨g6,0,none⟩=some (.bool b1)∧w'.cell? ⟨g6,1,none⟩=some (.slice A3 n3 c3)∧w'.cell? ⟨g6,2,none⟩=some (.slice B3 x3 d3))) (L:=[]) kx ?_;exact YtpnokfgplnmjpaaGreatDoor.k1
 obtain ⟨A5,n5,c5,A6,n6,c6,rfl,rfl,hX⟩:=hcut;have X:=hid hX;clear hX;obtain ⟨a0,a1,a2⟩:=X.out.c3 (i:=1) rfl;obtain ⟨c0,c1,c2⟩:=X.out.c3 (i:=2) rfl;go_wp2_with fail
 refine (rtimes _ _ _ _ _ _ _ _ _ (by have h:=(X.out.rw (i:=1) rfl).ln;have h2:=HN1.out;omega) (by have h:=(X.out.rw (i:=3) rfl).ln;have h2:=HN3.out;omega) (X.out.rw (i:=1) rfl).dg (X.out.rw (i:=3) rfl).dg).mono ?_;rintro e u2 ⟨A7,n7,c7,rfl,ht9,hb9,hf9⟩;have X:=hid (X.out.row hb9 ht9 hf9);clear hb9 ht9 hf9 a0 a1 a2 c0 c1 c2;obtain ⟨a0,a1,a2⟩:=X.out.c3 (i:=1) rfl;obtain ⟨c0,c1,c2⟩:=X.out.c3 (i:=2) rfl;go_upto_region 5 with fail
 clear a0 a1 a2 c0 c1 c2;refine wp_region_late (S:=fun w'=>(w'.cell? ⟨g5,0,none⟩=some (.bool b1)∧w'.cell? ⟨g5,1,none⟩=some (.slice A1 n1 c1)∧w'.cell? ⟨g5,2,none⟩=some (.slice B1 x1 d1))∧(w'.cell? ⟨g6,0,none⟩=some (.bool b1)∧w'.cell? ⟨g6,1,none⟩=some (.slice A3 n3 c3)∧w'.cell? ⟨g6,2,none⟩=some (.slice B3 x3 d3))) (L:=[]) kx ?_;have X:=hid X.out.drew;obtain ⟨V0,hV⟩:=wexi X.out;rw [←hV] at X ⊢;clear hV;refine tk (i:=0) (oi:=⟨some 35,_,_,_,_,_⟩) (v:=_) rfl kx ix c12 sl ?_;try simp only [Act.put,seti,set0,setS]
 refine tk (i:=1) (oi:=⟨some 36,_,_,_,_,_⟩) (v:=_) rfl kx ix c12 sl ?_;try simp only [Act.put,seti,set0,setS]
 refine tk (i:=2) (oi:=⟨some 37,_,_,_,_,_⟩) (v:=_) rfl kx ix c12 sl ?_;try simp only [Act.put,seti,set0,setS]
 refine tk (i:=3) (oi:=⟨some 38,_,_,_,_,_⟩) (v:=_) rfl kx ix c12 sl ?_;try simp only [Act.put,seti,set0,setS]
 refine tk (i:=5) (oi:=⟨some 40,_,_,_,_,_⟩) (v:=_) rfl kx ix c12 sl ?_;try simp only [Act.put,seti,set0,setS]
 refine wpLate_one (i:=4) (o:=⟨some 39,_,_,_,_,_⟩) kx rfl (fun K hK=>?_);go_simp
 (go_at_call 134;refine (rplus _ _ _ _ _ _ _ _ _ (by have h:=(X.out.rw (i:=4) rfl).ln;have h2:=HN4.out;omega) (by have h:=(X.out.rw (i:=5) rfl).ln;have h2:=HN5.out;omega) (X.out.rw (i:=4) rfl).dg (X.out.rw (i:=5) rfl).dg).mono ?_;rintro e u1 ⟨A1,n1,c1,rfl,ht9,hb9,hf9⟩;have X:=hid (X.out.row hb9 ht9 hf9);clear hb9 ht9 hf9)
 try go_wp2_with fail
 refine hK.out _ _ (Or.inr (fun _=>⟨X.out.c3 (i:=1) rfl,X.out.c3 (i:=2) rfl⟩)) ?_;clear hK K;try simp only [Act.put,seti,set0,setS]
 refine tk (i:=6) (oi:=⟨some 41,_,_,_,_,_⟩) (v:=_) rfl kx ix c12 sl ?_;try simp only [Act.put,seti,set0,setS]
 refine wpLate_one (i:=7) (o:=⟨some 42,_,_,_,_,_⟩) kx rfl (fun K hK=>?_);exact k12
theorem rAdd_ge {p q:Rat} {b1 b3:Bool} {m1 m2 m3 k1 k2 k3:ByteArray} (hp:Rq p b1 m1 k1) (hq:Rq q (!b1) m2 k2) (hr':Rq (mkRat (sgn b1 ((p.num.natAbs*q.den)-(q.num.natAbs*p.den))) (p.den*q.den)) b3 m3 k3) (hle:(q.num.natAbs*p.den)≤(p.num.natAbs*q.den)) (s1:m1.size≤10000) (s2:m2.size≤10000) (s3:(mag p.den).size≤10000) (s4:(mag q.den).size≤10000) (w:World) :
  Calls prog 77 #[.agg #[.bool b1,.string m1,.bool false,.string k1],.agg #[.bool (!b1),.string m2,.bool false,.string k2]] w (RetB w (.agg #[.bool b3,.string m3,.bool false,.string k3])):=by
 have ks:∀ {x:Rat} {b:Bool} {m k:ByteArray},Rq x b m k→(mag x.den).size≤10000→k.size≤10000:=fun {x b m k} h hs=>by
  exact k43
 have HF1:=hid (fun V=>rof2 hp om (by have:=ks hp s3;omega) V);have HF2:=hid (fun V=>rof2 hq om (by have:=ks hq s4;omega) V);have n0:nd p.num.natAbs≤10000:=by unfold nd;rw [←hp.mag.2];exact s1
 have n1:nd p.den≤10000:=s3;have n2:nd q.num.natAbs≤10000:=by unfold nd;rw [←hq.mag.2];exact s2
 have n3:nd q.den≤10000:=s4;have n4:nd (p.num.natAbs*q.den)≤20000:=by have:=nd_mul p.num.natAbs q.den;omega
 have n5:nd (q.num.natAbs*p.den)≤20000:=by have:=nd_mul q.num.natAbs p.den;omega
 have n6:nd (p.den*q.den)≤20000:=by have:=nd_mul p.den q.den;omega
 have n7:nd ((p.num.natAbs*q.den)-(q.num.natAbs*p.den))≤30000:=by have:=nd_mono (Nat.sub_le (p.num.natAbs*q.den) (q.num.natAbs*p.den));omega
 have hcn:∀ (A B:Option Addr) (n m c d:Nat) (V:World),Tr V A n c ((p.num.natAbs*q.den)-(q.num.natAbs*p.den))→Tr V B m d (p.den*q.den)→Calls prog 123 #[.agg #[.bool b1,.slice A n c,.slice B m d]] V (RetB V (.agg #[.bool b3,.string m3,.bool false,.string k3])):=by
  intro A B n m c d V hA hB;refine (rcanonical b1 A B n m c d _ _ V (by have:=hA.ln;omega) (by have:=hB.ln;omega) hA hB (Nat.mul_pos p.den_pos q.den_pos)).mono ?_;exact k45
 have HN0:=hid n0;have HN1:=hid n1;have HN2:=hid n2;have HN3:=hid n3;have HN4:=hid n4;have HN5:=hid n5;have HLE:=hid (hle);have HCN:=hid hcn;obtain ⟨o,ho,hge⟩:=ord_ge hle
 have hcm:∀ (A B:Option Addr) (n m c d:Nat) (V:World),n≤1000000000→m≤1000000000→Tr V A n c (p.num.natAbs*q.den)→Tr V B m d (q.num.natAbs*p.den)→Calls prog 121 #[.slice A n c,.slice B m d] V (RetDw V (.int .i64 o)):=by
  intro A B n m c d V h1 h2 h3 h4;rw [←ho];exact rcompare_any A B n m c d _ _ V h1 h2 h3 h4
 have HCM:=hid hcm;have hge2:¬o<0:=om;clear ho hcm;have X:=hid ((((Sb.start w).new #[.bool b1,.string m1,.bool false,.string k1] 25).new #[.bool (!b1),.string m2,.bool false,.string k2] 25).new #[.bool false,.string ⟨#[]⟩,.bool false,.string ⟨#[]⟩] 25);have X:=hid (X.out.pick [0,1,2] [(w.heap.size,#[.bool b1,.string m1,.bool false,.string k1],25),(w.heap.size+1,#[.bool (!b1),.string m2,.bool false,.string k2],25),(w.heap.size+1+1,#[.bool false,.string ⟨#[]⟩,.bool false,.string ⟨#[]⟩],25)] [] (by simp) dc (by simp));clear hp hq hr' hcn n0 n1 n2 n3 n4 n5 n6 n7 s1 s2 s3 s4 ks hle;go_enter Tryz.func77,Tryz.ntmps77;go_upto_region 1 with fail
 go_cut [5,6] (fun s5 s6 wx=>∃ g5 g6 A1 n1 c1 B1 x1 d1 A3 n3 c3 B3 x3 d3,s5=.pointer (some ⟨g5,0,none⟩)∧s6=.pointer (some ⟨g6,0,none⟩)∧Sb w [(w.heap.size+1+1,#[.bool false,.string ⟨#[]⟩,.bool false,.string ⟨#[]⟩],25),(g5,#[.bool b1,.slice A1 n1 c1,.slice B1 x1 d1],110),(g6,#[.bool (!b1),.slice A3 n3 c3,.slice B3 x3 d3],110)] [(A1,n1,c1,p.num.natAbs),(B1,x1,d1,p.den),(A3,n3,c3,q.num.natAbs),(B3,x3,d3,q.den)] wx)
 case first =>
  exact YtpnokfgplnmjpaaGreatDoor.k3
 obtain ⟨g5,g6,A1,n1,c1,B1,x1,d1,A3,n3,c3,B3,x3,d3,rfl,rfl,hX⟩:=hcut;have X:=hid hX;clear hX;go_upto_region 2 with fail
 go_cut [7,8] (fun s7 s8 wx=>∃ A5 n5 c5 A6 n6 c6,s7=.slice A5 n5 c5∧s8=.slice A6 n6 c6∧Sb w [(w.heap.size+1+1,#[.bool false,.string ⟨#[]⟩,.bool false,.string ⟨#[]⟩],25),(g5,#[.bool b1,.slice A1 n1 c1,.slice B1 x1 d1],110),(g6,#[.bool (!b1),.slice A3 n3 c3,.slice B3 x3 d3],110)] [(A1,n1,c1,p.num.natAbs),(B1,x1,d1,p.den),(A3,n3,c3,q.num.natAbs),(B3,x3,d3,q.den),(A5,n5,c5,(p.num.natAbs*q.den)),(A6,n6,c6,(q.num.natAbs*p.den))] wx)
 case first =>
  refine wp_region_late (S:=fun w'=>(w'.cell? ⟨g5,0,none⟩=some (.bool b1)∧w'.cell? ⟨g5,1,none⟩=some (.slice A1 n1 c1)∧w'.cell? ⟨g5,2,none⟩=some (.slice B1 x1 d1))∧(w'.cell? ⟨g6,0,none⟩=some (.bool (!b1))∧w'.cell? ⟨g6,1,none⟩=some (.slice A3 n3 c3)∧w'.cell? ⟨g6,2,none⟩=some (.slice B3 x3 d3))) (L:=[]) kx ?_;exact YtpnokfgplnmjpaaGreatDoor.k1
 obtain ⟨A5,n5,c5,A6,n6,c6,rfl,rfl,hX⟩:=hcut;have X:=hid hX;clear hX;obtain ⟨a0,a1,a2⟩:=X.out.c3 (i:=1) rfl;obtain ⟨c0,c1,c2⟩:=X.out.c3 (i:=2) rfl;go_wp2_with fail
 refine (rtimes _ _ _ _ _ _ _ _ _ (by have h:=(X.out.rw (i:=1) rfl).ln;have h2:=HN1.out;omega) (by have h:=(X.out.rw (i:=3) rfl).ln;have h2:=HN3.out;omega) (X.out.rw (i:=1) rfl).dg (X.out.rw (i:=3) rfl).dg).mono ?_;rintro e u2 ⟨A7,n7,c7,rfl,ht9,hb9,hf9⟩;have X:=hid (X.out.row hb9 ht9 hf9);clear hb9 ht9 hf9 a0 a1 a2 c0 c1 c2;obtain ⟨a0,a1,a2⟩:=X.out.c3 (i:=1) rfl;obtain ⟨c0,c1,c2⟩:=X.out.c3 (i:=2) rfl;go_wp2_with fail
 refine (HCM.out _ _ _ _ _ _ _ (by have h:=(X.out.rw (i:=4) rfl).ln;have h2:=HN4.out;omega) (by have h:=(X.out.rw (i:=5) rfl).ln;have h2:=HN5.out;omega) (X.out.rw (i:=4) rfl) (X.out.rw (i:=5) rfl)).mono ?_;rintro e u5 ⟨rfl,nn,rfl⟩;have X:=hid (X.out.next (below_draws (Below.refl _ _) nn));obtain ⟨u6,hV⟩:=wexi X.out;rw [←hV] at X ⊢;clear hV a0 a1 a2 c0 c1 c2;go_upto_region 7 with fail
 refine wp_region_late (S:=fun w'=>(w'.cell? ⟨g5,0,none⟩=some (.bool b1)∧w'.cell? ⟨g5,1,none⟩=some (.slice A1 n1 c1)∧w'.cell? ⟨g5,2,none⟩=some (.slice B1 x1 d1))∧(w'.cell? ⟨g6,0,none⟩=some (.bool (!b1))∧w'.cell? ⟨g6,1,none⟩=some (.slice A3 n3 c3)∧w'.cell? ⟨g6,2,none⟩=some (.slice B3 x3 d3))) (L:=[]) kx ?_;have X:=hid X.out.drew;obtain ⟨V0,hV⟩:=wexi X.out;rw [←hV] at X ⊢;clear hV;refine tk (i:=0) (oi:=⟨some 48,_,_,_,_,_⟩) (v:=_) rfl kx ix c12 sl ?_;try simp only [Act.put,seti,set0,setS]
 refine tk (i:=1) (oi:=⟨some 49,_,_,_,_,_⟩) (v:=_) rfl kx ix c12 sl ?_;try simp only [Act.put,seti,set0,setS]
 refine tk (i:=2) (oi:=⟨some 50,_,_,_,_,_⟩) (v:=_) rfl kx ix c12 sl ?_;try simp only [Act.put,seti,set0,setS]
 refine tk (i:=3) (oi:=⟨some 51,_,_,_,_,_⟩) (v:=_) rfl kx ix c12 sl ?_;try simp only [Act.put,seti,set0,setS]
 refine tk (i:=5) (oi:=⟨some 53,_,_,_,_,_⟩) (v:=_) rfl kx ix c12 sl ?_;try simp only [Act.put,seti,set0,setS]
 refine wpLate_one (i:=4) (o:=⟨some 52,_,_,_,_,_⟩) kx rfl (fun K hK=>?_);go_simp
 (go_at_call 135;refine (rminus _ _ _ _ _ _ _ _ _ (by have h:=(X.out.rw (i:=4) rfl).ln;have h2:=HN4.out;omega) (by have h:=(X.out.rw (i:=5) rfl).ln;have h2:=HN5.out;omega) (X.out.rw (i:=4) rfl).dg (X.out.rw (i:=5) rfl).dg HLE.out).mono ?_;rintro e u1 ⟨A1,n1,c1,rfl,ht9,hb9,hf9⟩;have X:=hid (X.out.row hb9 ht9 hf9);clear hb9 ht9 hf9)
 try go_wp2_with fail
 refine hK.out _ _ (Or.inr (fun _=>⟨X.out.c3 (i:=1) rfl,X.out.c3 (i:=2) rfl⟩)) ?_;clear hK K;try simp only [Act.put,seti,set0,setS]
 refine tk (i:=6) (oi:=⟨some 54,_,_,_,_,_⟩) (v:=_) rfl kx ix c12 sl ?_;try simp only [Act.put,seti,set0,setS]
 refine wpLate_one (i:=7) (o:=⟨some 55,_,_,_,_,_⟩) kx rfl (fun K hK=>?_);exact k12
theorem rAdd_lt {p q:Rat} {b1 b3:Bool} {m1 m2 m3 k1 k2 k3:ByteArray} (hp:Rq p b1 m1 k1) (hq:Rq q (!b1) m2 k2) (hr':Rq (mkRat (sgn (!b1) ((q.num.natAbs*p.den)-(p.num.natAbs*q.den))) (p.den*q.den)) b3 m3 k3) (hle:(p.num.natAbs*q.den)<(q.num.natAbs*p.den)) (s1:m1.size≤10000) (s2:m2.size≤10000) (s3:(mag p.den).size≤10000) (s4:(mag q.den).size≤10000) (w:World) :
  Calls prog 77 #[.agg #[.bool b1,.string m1,.bool false,.string k1],.agg #[.bool (!b1),.string m2,.bool false,.string k2]] w (RetB w (.agg #[.bool b3,.string m3,.bool false,.string k3])):=by
 have ks:∀ {x:Rat} {b:Bool} {m k:ByteArray},Rq x b m k→(mag x.den).size≤10000→k.size≤10000:=fun {x b m k} h hs=>by
  exact k43
 have HF1:=hid (fun V=>rof2 hp om (by have:=ks hp s3;omega) V);have HF2:=hid (fun V=>rof2 hq om (by have:=ks hq s4;omega) V);have n0:nd p.num.natAbs≤10000:=by unfold nd;rw [←hp.mag.2];exact s1
 have n1:nd p.den≤10000:=s3;have n2:nd q.num.natAbs≤10000:=by unfold nd;rw [←hq.mag.2];exact s2
 have n3:nd q.den≤10000:=s4;have n4:nd (p.num.natAbs*q.den)≤20000:=by have:=nd_mul p.num.natAbs q.den;omega
 have n5:nd (q.num.natAbs*p.den)≤20000:=by have:=nd_mul q.num.natAbs p.den;omega
 have n6:nd (p.den*q.den)≤20000:=by have:=nd_mul p.den q.den;omega
 have n7:nd ((q.num.natAbs*p.den)-(p.num.natAbs*q.den))≤30000:=by have:=nd_mono (Nat.sub_le (q.num.natAbs*p.den) (p.num.natAbs*q.den));omega
 have hcn:∀ (A B:Option Addr) (n m c d:Nat) (V:World),Tr V A n c ((q.num.natAbs*p.den)-(p.num.natAbs*q.den))→Tr V B m d (p.den*q.den)→Calls prog 123 #[.agg #[.bool (!b1),.slice A n c,.slice B m d]] V (RetB V (.agg #[.bool b3,.string m3,.bool false,.string k3])):=by
  intro A B n m c d V hA hB;refine (rcanonical (!b1) A B n m c d _ _ V (by have:=hA.ln;omega) (by have:=hB.ln;omega) hA hB (Nat.mul_pos p.den_pos q.den_pos)).mono ?_;exact k45
 have HN0:=hid n0;have HN1:=hid n1;have HN2:=hid n2;have HN3:=hid n3;have HN4:=hid n4;have HN5:=hid n5;have HLE:=hid (Nat.le_of_lt hle);have HCN:=hid hcn;have ho:=ord_lt hle
 have hcm:∀ (A B:Option Addr) (n m c d:Nat) (V:World),n≤1000000000→m≤1000000000→Tr V A n c (p.num.natAbs*q.den)→Tr V B m d (q.num.natAbs*p.den)→Calls prog 121 #[.slice A n c,.slice B m d] V (RetDw V (.int .i64 (-1))):=by
  intro A B n m c d V h1 h2 h3 h4;rw [←ho];exact rcompare_any A B n m c d _ _ V h1 h2 h3 h4
 have HCM:=hid hcm;clear ho hcm;have X:=hid ((((Sb.start w).new #[.bool b1,.string m1,.bool false,.string k1] 25).new #[.bool (!b1),.string m2,.bool false,.string k2] 25).new #[.bool false,.string ⟨#[]⟩,.bool false,.string ⟨#[]⟩] 25);have X:=hid (X.out.pick [0,1,2] [(w.heap.size,#[.bool b1,.string m1,.bool false,.string k1],25),(w.heap.size+1,#[.bool (!b1),.string m2,.bool false,.string k2],25),(w.heap.size+1+1,#[.bool false,.string ⟨#[]⟩,.bool false,.string ⟨#[]⟩],25)] [] (by simp) dc (by simp));clear hp hq hr' hcn n0 n1 n2 n3 n4 n5 n6 n7 s1 s2 s3 s4 ks hle;go_enter Tryz.func77,Tryz.ntmps77;go_upto_region 1 with fail
 go_cut [5,6] (fun s5 s6 wx=>∃ g5 g6 A1 n1 c1 B1 x1 d1 A3 n3 c3 B3 x3 d3,s5=.pointer (some ⟨g5,0,none⟩)∧s6=.pointer (some ⟨g6,0,none⟩)∧Sb w [(w.heap.size+1+1,#[.bool false,.string ⟨#[]⟩,.bool false,.string ⟨#[]⟩],25),(g5,#[.bool b1,.slice A1 n1 c1,.slice B1 x1 d1],110),(g6,#[.bool (!b1),.slice A3 n3 c3,.slice B3 x3 d3],110)] [(A1,n1,c1,p.num.natAbs),(B1,x1,d1,p.den),(A3,n3,c3,q.num.natAbs),(B3,x3,d3,q.den)] wx)
 case first =>
  exact YtpnokfgplnmjpaaGreatDoor.k3
 obtain ⟨g5,g6,A1,n1,c1,B1,x1,d1,A3,n3,c3,B3,x3,d3,rfl,rfl,hX⟩:=hcut;have X:=hid hX;clear hX;go_upto_region 2 with fail
 go_cut [7,8] (fun s7 s8 wx=>∃ A5 n5 c5 A6 n6 c6,s7=.slice A5 n5 c5∧s8=.slice A6 n6 c6∧Sb w [(w.heap.size+1+1,#[.bool false,.string ⟨#[]⟩,.bool false,.string ⟨#[]⟩],25),(g5,#[.bool b1,.slice A1 n1 c1,.slice B1 x1 d1],110),(g6,#[.bool (!b1),.slice A3 n3 c3,.slice B3 x3 d3],110)] [(A1,n1,c1,p.num.natAbs),(B1,x1,d1,p.den),(A3,n3,c3,q.num.natAbs),(B3,x3,d3,q.den),(A5,n5,c5,(p.num.natAbs*q.den)),(A6,n6,c6,(q.num.natAbs*p.den))] wx)
 case first =>
  refine wp_region_late (S:=fun w'=>(w'.cell? ⟨g5,0,none⟩=some (.bool b1)∧w'.cell? ⟨g5,1,none⟩=some (.slice A1 n1 c1)∧w'.cell? ⟨g5,2,none⟩=some (.slice B1 x1 d1))∧(w'.cell? ⟨g6,0,none⟩=some (.bool (!b1))∧w'.cell? ⟨g6,1,none⟩=some (.slice A3 n3 c3)∧w'.cell? ⟨g6,2,none⟩=some (.slice B3 x3 d3))) (L:=[]) kx ?_;exact YtpnokfgplnmjpaaGreatDoor.k1
 obtain ⟨A5,n5,c5,A6,n6,c6,rfl,rfl,hX⟩:=hcut;have X:=hid hX;clear hX;obtain ⟨a0,a1,a2⟩:=X.out.c3 (i:=1) rfl;obtain ⟨c0,c1,c2⟩:=X.out.c3 (i:=2) rfl;go_wp2_with fail
 refine (rtimes _ _ _ _ _ _ _ _ _ (by have h:=(X.out.rw (i:=1) rfl).ln;have h2:=HN1.out;omega) (by have h:=(X.out.rw (i:=3) rfl).ln;have h2:=HN3.out;omega) (X.out.rw (i:=1) rfl).dg (X.out.rw (i:=3) rfl).dg).mono ?_;rintro e u2 ⟨A7,n7,c7,rfl,ht9,hb9,hf9⟩;have X:=hid (X.out.row hb9 ht9 hf9);clear hb9 ht9 hf9 a0 a1 a2 c0 c1 c2;obtain ⟨a0,a1,a2⟩:=X.out.c3 (i:=1) rfl;obtain ⟨c0,c1,c2⟩:=X.out.c3 (i:=2) rfl;go_wp2_with fail
 refine (HCM.out _ _ _ _ _ _ _ (by have h:=(X.out.rw (i:=4) rfl).ln;have h2:=HN4.out;omega) (by have h:=(X.out.rw (i:=5) rfl).ln;have h2:=HN5.out;omega) (X.out.rw (i:=4) rfl) (X.out.rw (i:=5) rfl)).mono ?_;rintro e u5 ⟨rfl,nn,rfl⟩;have X:=hid (X.out.next (below_draws (Below.refl _ _) nn));obtain ⟨u6,hV⟩:=wexi X.out;rw [←hV] at X ⊢;clear hV a0 a1 a2 c0 c1 c2;go_upto_region 8 with fail
 refine wp_region_late (S:=fun w'=>(w'.cell? ⟨g5,0,none⟩=some (.bool b1)∧w'.cell? ⟨g5,1,none⟩=some (.slice A1 n1 c1)∧w'.cell? ⟨g5,2,none⟩=some (.slice B1 x1 d1))∧(w'.cell? ⟨g6,0,none⟩=some (.bool (!b1))∧w'.cell? ⟨g6,1,none⟩=some (.slice A3 n3 c3)∧w'.cell? ⟨g6,2,none⟩=some (.slice B3 x3 d3))) (L:=[]) kx ?_;have X:=hid X.out.drew;obtain ⟨V0,hV⟩:=wexi X.out;rw [←hV] at X ⊢;clear hV;refine tk (i:=0) (oi:=⟨some 56,_,_,_,_,_⟩) (v:=_) rfl kx ix c12 sl ?_;try simp only [Act.put,seti,set0,setS]
 refine tk (i:=1) (oi:=⟨some 57,_,_,_,_,_⟩) (v:=_) rfl kx ix c12 sl ?_;try simp only [Act.put,seti,set0,setS]
 refine tk (i:=2) (oi:=⟨some 58,_,_,_,_,_⟩) (v:=_) rfl kx ix c12 sl ?_;try simp only [Act.put,seti,set0,setS]
 refine tk (i:=3) (oi:=⟨some 59,_,_,_,_,_⟩) (v:=_) rfl kx ix c12 sl ?_;try simp only [Act.put,seti,set0,setS]
 refine tk (i:=5) (oi:=⟨some 61,_,_,_,_,_⟩) (v:=_) rfl kx ix c12 sl ?_;try simp only [Act.put,seti,set0,setS]
 refine wpLate_one (i:=4) (o:=⟨some 60,_,_,_,_,_⟩) kx rfl (fun K hK=>?_);go_simp
 (go_at_call 135;refine (rminus _ _ _ _ _ _ _ _ _ (by have h:=(X.out.rw (i:=5) rfl).ln;have h2:=HN5.out;omega) (by have h:=(X.out.rw (i:=4) rfl).ln;have h2:=HN4.out;omega) (X.out.rw (i:=5) rfl).dg (X.out.rw (i:=4) rfl).dg HLE.out).mono ?_;rintro e u1 ⟨A1,n1,c1,rfl,ht9,hb9,hf9⟩;have X:=hid (X.out.row hb9 ht9 hf9);clear hb9 ht9 hf9)
 try go_wp2_with fail
 refine hK.out _ _ (Or.inr (fun _=>⟨X.out.c3 (i:=1) rfl,X.out.c3 (i:=2) rfl⟩)) ?_;clear hK K;try simp only [Act.put,seti,set0,setS]
 refine tk (i:=6) (oi:=⟨some 62,_,_,_,_,_⟩) (v:=_) rfl kx ix c12 sl ?_;try simp only [Act.put,seti,set0,setS]
 refine wpLate_one (i:=7) (o:=⟨some 63,_,_,_,_,_⟩) kx rfl (fun K hK=>?_);exact k12
theorem ratCombine_any (OP:FuncId) (hEn:∀ (args:Array Value) (W:World),(callFunc OP args).run prog W=.ok (.enter OP args) W) {p q:Rat} {b1 b2 bg bt bn:Bool} {m1 m2 k1 k2 mg mt mn:ByteArray} {t n:Int} {g qa sb' db dd:Nat} (hp:Rq p b1 m1 k1) (hq:Rq q b2 m2 k2) (hint:¬(p.den=1∧q.den=1))
  (hg:g=Nat.gcd p.den q.den) (hqa:qa=p.den / g) (hsb:sb'=q.den / g) (hmg:enc (g:Int)=.agg #[.bool bg,.string mg]) (hmt:enc t=.agg #[.bool bt,.string mt])
  (hOP:∀ (x y:Int) (c1 c2:Bool) (s1 s2:ByteArray),x=p.num*sb'→y=q.num*qa→enc x=.agg #[.bool c1,.string s1]→enc y=.agg #[.bool c2,.string s2]→∀ V,Calls prog OP #[.agg #[.bool c1,.string s1],.agg #[.bool c2,.string s2]] V (RetB V (.agg #[.bool bt,.string mt])))
  (hn:n=t / (Nat.gcd t.natAbs g:Nat)) (hdb:db=q.den / Nat.gcd t.natAbs g) (hdd:dd=qa*db) (hmn:enc n=.agg #[.bool bn,.string mn])
  (s1:m1.size≤10000) (s2:m2.size≤10000) (s3:(mag p.den).size≤10000) (s4:(mag q.den).size≤10000) (s5:mt.size≤50000) (w:World) (hE:Env w) :
  Calls prog 137 #[.agg #[.bool b1,.string m1,.bool false,.string k1],.agg #[.bool b2,.string m2,.bool false,.string k2],.func (.func OP) #[] #[]] w (RetB w (.agg #[.bool bn,.string mn,.bool false,.string (dm dd)])):=by
 have g0:g≠0:=by rw [hg];exact fun h=>p.den_nz (Nat.eq_zero_of_gcd_eq_zero_left h)
 have hgs:(mag g).size≤10000:=Nat.le_trans (nd_mono (hg ▸ Nat.gcd_le_left _ p.den_pos)) s3;have hqs:(mag qa).size≤10000:=Nat.le_trans (hqa ▸ nd_div _ _) s3;have hss:(mag sb').size≤10000:=Nat.le_trans (hsb ▸ nd_div _ _) s4;have hds:(mag db).size≤10000:=Nat.le_trans (hdb ▸ nd_div _ _) s4;have hmg2:bg=false∧mg=mag g:=by have h:=enc_parts hmg;exact ⟨by rw [h.1];exact decide_eq_false om,by rw [h.2,Int.natAbs_natCast]⟩
 obtain ⟨rfl,rfl⟩:=hmg2;obtain ⟨cx,sx,hx⟩:=enc_form (p.num*(sb':Int));obtain ⟨cy,sy,hy⟩:=enc_form (q.num*(qa:Int));have hv0:Nat.gcd t.natAbs g≠0:=fun h=>g0 (Nat.eq_zero_of_gcd_eq_zero_right h)
 have hvs:(mag (Nat.gcd t.natAbs g)).size≤10000:=Nat.le_trans (nd_mono (Nat.gcd_le_right _ om)) hgs;have HD1:=hid (fun V (hV:Env V)=>den_f hp V hV);have HD2:=hid (fun V (hV:Env V)=>den_f hq V hV);have HCM:=hid (fun V (hV:Env V)=>common_f (d:=q.den) (enc_mag p.den) (by rw [Int.natAbs_natCast,←hg];exact hmg) om om V hV);have HQ1:=hid (fun V (hV:Env V)=>quotient_f (d:=g) (enc_mag p.den) (enc_mag qa) (by rw [hqa];rfl) om om g0 V hV);have HQ2:=hid (fun V (hV:Env V)=>quotient_f (d:=g) (enc_mag q.den) (enc_mag sb') (by rw [hsb];rfl) om om g0 V hV);have HT1:=hid (fun V (hV:Env V)=>ratTimes_f hp.num (enc_mag sb') hx rfl om om V hV);have HT2:=hid (fun V (hV:Env V)=>ratTimes_f hq.num (enc_mag qa) hy rfl om om V hV);have HOP:=hid (hOP _ _ cx cy sx sy rfl rfl hx hy);have HGC:=hid (fun V (hV:Env V)=>gcd_f hmt (enc_mag g) (bg:=false) (mg:=mag (Nat.gcd t.natAbs g)) (by rw [Int.natAbs_natCast];exact enc_mag _) om om V hV.tab);have HQ3:=hid (fun V (hV:Env V)=>quotient_f (d:=Nat.gcd t.natAbs g) hmt hmn hn om om hv0 V hV);have HQ4:=hid (fun V (hV:Env V)=>quotient_f (d:=Nat.gcd t.natAbs g) (enc_mag q.den) (enc_mag db) (by rw [hdb];rfl) om om hv0 V hV);have HT3:=hid (fun V (hV:Env V)=>ratTimes_f (enc_mag qa) (enc_mag db) (enc_mag dd) (by rw [hdd,Int.natCast_mul]) om om V hV);have HCP:=hid (fun V (hV:Env V)=>coprime_f bn mn dd V hV)
 have hone:(g=1∧bn=bt∧mn=mt∧db=q.den)∨(g≠1∧¬(mag g).toList=[1]∧¬[1]=(mag g).toList):=by
  by_cases h:g=1
  · left
    rw [h,Nat.gcd_one_right] at hn hdb;have h1:n=t:=by rw [hn];simp
    rw [h1,hmt] at hmn
    injection hmn with hmn
    have h2:bt=bn∧mt=mn:=by simpa using hmn
    exact ⟨h,h2.1.symm,h2.2.symm,by rw [hdb,Nat.div_one]⟩
  · right
    have h4:=toList_ne (l:=[1]) (mag_no_one h);exact ⟨h,h4,fun e=>h4 e.symm⟩
 have HG:=hid hone;have HI:=hid (And.intro hp (And.intro hq hint));have HE:=hid (fun V (h:Below w.heap.size w V)=>hE.next h);have X:=hid ((((Sb.start w).new #[.bool b1,.string m1,.bool false,.string k1] 25).new #[.bool b2,.string m2,.bool false,.string k2] 25).new #[.bool false,.string ⟨#[]⟩,.bool false,.string ⟨#[]⟩] 25);have X:=hid (X.out.pick [0,1,2] [(w.heap.size,#[.bool b1,.string m1,.bool false,.string k1],25),(w.heap.size+1,#[.bool b2,.string m2,.bool false,.string k2],25),(w.heap.size+1+1,#[.bool false,.string ⟨#[]⟩,.bool false,.string ⟨#[]⟩],25)] [] (by simp) dc (by simp));generalize hmda:mag p.den=mda at *;generalize hmdb:mag q.den=mdb at *;generalize hmq:mag qa=mq at *;generalize hms:mag sb'=ms at *;generalize hmd2:mag db=md2 at *;generalize mag dd=mdd at *;generalize hmv:mag (Nat.gcd t.natAbs g)=mv at *;have HM:=hid (And.intro hmdb hmd2);clear hp hq hint hg hqa hsb hmt hOP hn hdb hdd hmn s1 s2 s3 s4 s5 hE hgs hqs hss hds hx hy hv0 hvs hone hmda hmdb hmq hms hmd2 hmv;generalize hmgg:mag g=mg at *;have HMG:=hid hmgg;clear hmgg hmg g0;go_enter Tryz.func137,Tryz.ntmps137;go_upto_region 1 with fail
 go_cut [19] (fun s19 wx=>s19=.bool false∧Sb w [(w.heap.size,#[.bool b1,.string m1,.bool false,.string k1],25),(w.heap.size+1,#[.bool b2,.string m2,.bool false,.string k2],25),(w.heap.size+1+1,#[.bool false,.string ⟨#[]⟩,.bool false,.string ⟨#[]⟩],25)] [] wx)
 case first =>
  exact k18
 obtain ⟨rfl,hX⟩:=hcut;have X:=hid hX;clear hX;go_upto_region 3 with fail
 go_cut [7,8] (fun s7 s8 wx=>∃ g7 g8,s7=.pointer (some ⟨g7,0,none⟩)∧s8=.pointer (some ⟨g8,0,none⟩)∧Sb w [(w.heap.size,#[.bool b1,.string m1,.bool false,.string k1],25),(w.heap.size+1,#[.bool b2,.string m2,.bool false,.string k2],25),(w.heap.size+1+1,#[.bool false,.string ⟨#[]⟩,.bool false,.string ⟨#[]⟩],25),(g7,#[.bool false,.string mda],23),(g8,#[.bool false,.string mdb],23)] [] wx)
 case first =>
  refine wp_region_any kx ?_;have X:=hid X.out.drew;obtain ⟨W0,hV⟩:=wexi X.out;rw [show ∀ v:World,{ v with drawn:=v.drawn+1 }=v.drew from fun _=>rfl,←hV];rw [←hV] at X;clear hV;refine rg_run (ef:=[.val (.agg #[.bool b1,.string m1,.bool false,.string k1]),.val (.agg #[.bool false,.string mda]),.val (.agg #[.bool b2,.string m2,.bool false,.string k2]),.val (.agg #[.bool false,.string mdb]),.new #[.bool false,.string ⟨#[]⟩] 23,.new #[.bool false,.string ⟨#[]⟩] 23]) (ds:=[27,28,29,30,7,8]) kx (stays_none (by simp)) dc rfl (by intro d hd;simp at hd ⊢;omega) (fun i d o hd ho listed a w1 hR hdep K hK=>?_) 2 (fun a w1 hR=>?_)
  · have X:=hid (X.out.next hR.bel);have HKt:=hid hK;have HDp:=hid hdep;have sl3:a.tmps.getD 3 undef=.pointer (some ⟨w.heap.size,0,none⟩):=hR.keep 3 dc;have sl4:a.tmps.getD 4 undef=.pointer (some ⟨w.heap.size+1,0,none⟩):=hR.keep 4 dc;have HRg:=hid hR;clear hK hdep hR;rcases i with _ | _ | _ | _ | _ | _ | i
    · exact k9
    · cases hd;cases ho;have dd0:a.tmps.getD 27 undef=.agg #[.bool b1,.string m1,.bool false,.string k1]:=HRg.out.val 0 _ (HDp.out 0 dc) rfl;go_simp
      (go_at_call 94;refine (HD1.out _ (HE.out _ X.out.bel)).mono ?_;rintro e u ⟨rfl,hb9⟩)
      exact k26
    · exact k9
    · cases hd;cases ho;have dd1:a.tmps.getD 28 undef=.agg #[.bool false,.string mda]:=HRg.out.val 1 _ (HDp.out 1 dc) rfl;have dd2:a.tmps.getD 29 undef=.agg #[.bool b2,.string m2,.bool false,.string k2]:=HRg.out.val 2 _ (HDp.out 2 dc) rfl;go_simp
      (go_at_call 94;refine (HD2.out _ (HE.out _ X.out.bel)).mono ?_;rintro e u ⟨rfl,hb9⟩)
      exact k26
    · exact k15
    · exact k15
    · cases hd
  obtain ⟨g4,hg4,lg4,kg4⟩:=hR.new 4 _ _ (by rfl) rfl;obtain ⟨g5,hg5,lg5,kg5⟩:=hR.new 5 _ _ (by rfl) rfl;have vv0:a.tmps.getD 27 undef=.agg #[.bool b1,.string m1,.bool false,.string k1]:=hR.val 0 _ (by rfl) rfl;have vv1:a.tmps.getD 28 undef=.agg #[.bool false,.string mda]:=hR.val 1 _ (by rfl) rfl;have vv2:a.tmps.getD 29 undef=.agg #[.bool b2,.string m2,.bool false,.string k2]:=hR.val 2 _ (by rfl) rfl;have vv3:a.tmps.getD 30 undef=.agg #[.bool false,.string mdb]:=hR.val 3 _ (by rfl) rfl;replace hg4:a.tmps.getD 7 undef=.pointer (some ⟨g4,0,none⟩):=hg4;replace hg5:a.tmps.getD 8 undef=.pointer (some ⟨g5,0,none⟩):=hg5;exact k17
 obtain ⟨g7,g8,rfl,rfl,hX⟩:=hcut;have X:=hid hX;clear hX;obtain ⟨x0,x1⟩:=X.out.c2 (i:=3) rfl;obtain ⟨y0,y1⟩:=X.out.c2 (i:=4) rfl;go_wp2_with fail
 refine (HCM.out _ (HE.out _ X.out.bel)).mono ?_;rintro e w4 ⟨rfl,hb9⟩;have X:=hid (X.out.next hb9);clear hb9;have X:=hid (X.out.new #[.bool false,.string mg] 23);obtain ⟨g9,hg9⟩:∃ g,g=w4.heap.size:=⟨_,rfl⟩
 rw [←hg9] at X;clear x0 x1 y0 y1;go_upto_region 5 with fail
 rw [←hg9];clear hg9;go_cut [10,11] (fun s10 s11 wx=>∃ g10 g11,s10=.pointer (some ⟨g10,0,none⟩)∧s11=.pointer (some ⟨g11,0,none⟩)∧Sb w [(w.heap.size,#[.bool b1,.string m1,.bool false,.string k1],25),(w.heap.size+1,#[.bool b2,.string m2,.bool false,.string k2],25),(w.heap.size+1+1,#[.bool false,.string ⟨#[]⟩,.bool false,.string ⟨#[]⟩],25),(g8,#[.bool false,.string mdb],23),(g9,#[.bool false,.string mg],23),(g10,#[.bool false,.string mq],23),(g11,#[.bool false,.string ms],23)] [] wx)
 case first =>
  refine wp_region_any kx ?_;have X:=hid X.out.drew;obtain ⟨W0,hV⟩:=wexi X.out;rw [show ∀ v:World,{ v with drawn:=v.drawn+1 }=v.drew from fun _=>rfl,←hV];rw [←hV] at X;clear hV;refine rg_run (ef:=[.val (.agg #[.bool false,.string mda]),.val (.agg #[.bool false,.string mg]),.val (.agg #[.bool false,.string mq]),.val (.agg #[.bool false,.string mdb]),.val (.agg #[.bool false,.string mg]),.val (.agg #[.bool false,.string ms]),.new #[.bool false,.string ⟨#[]⟩] 23,.new #[.bool false,.string ⟨#[]⟩] 23]) (ds:=[34,35,36,37,38,39,10,11]) kx (stays_none (by simp)) dc rfl (by intro d hd;simp at hd ⊢;omega) (fun i d o hd ho listed a w1 hR hdep K hK=>?_) 2 (fun a w1 hR=>?_)
  · have X:=hid (X.out.next hR.bel);have HKt:=hid hK;have HDp:=hid hdep;have sl7:a.tmps.getD 7 undef=.pointer (some ⟨g7,0,none⟩):=hR.keep 7 dc;have sl8:a.tmps.getD 8 undef=.pointer (some ⟨g8,0,none⟩):=hR.keep 8 dc;have sl9:a.tmps.getD 9 undef=.pointer (some ⟨g9,0,none⟩):=hR.keep 9 dc;have HRg:=hid hR;clear hK hdep hR;rcases i with _ | _ | _ | _ | _ | _ | _ | _ | i
    · exact k28
    · exact k28
    · cases hd;cases ho;have dd0:a.tmps.getD 34 undef=.agg #[.bool false,.string mda]:=HRg.out.val 0 _ (HDp.out 0 dc) rfl;have dd1:a.tmps.getD 35 undef=.agg #[.bool false,.string mg]:=HRg.out.val 1 _ (HDp.out 1 dc) rfl;go_simp
      (go_at_call 133;refine (HQ1.out _ (HE.out _ X.out.bel)).mono ?_;rintro e u ⟨rfl,hb9⟩)
      exact k26
    · exact k28
    · exact k28
    · cases hd;cases ho;have dd2:a.tmps.getD 36 undef=.agg #[.bool false,.string mq]:=HRg.out.val 2 _ (HDp.out 2 dc) rfl;have dd3:a.tmps.getD 37 undef=.agg #[.bool false,.string mdb]:=HRg.out.val 3 _ (HDp.out 3 dc) rfl;have dd4:a.tmps.getD 38 undef=.agg #[.bool false,.string mg]:=HRg.out.val 4 _ (HDp.out 4 dc) rfl;go_simp
      (go_at_call 133;refine (HQ2.out _ (HE.out _ X.out.bel)).mono ?_;rintro e u ⟨rfl,hb9⟩)
      exact k26
    · exact k15
    · exact k15
    · cases hd
  obtain ⟨g6,hg6,lg6,kg6⟩:=hR.new 6 _ _ (by rfl) rfl;obtain ⟨g7,hg7,lg7,kg7⟩:=hR.new 7 _ _ (by rfl) rfl;have vv0:a.tmps.getD 34 undef=.agg #[.bool false,.string mda]:=hR.val 0 _ (by rfl) rfl;have vv1:a.tmps.getD 35 undef=.agg #[.bool false,.string mg]:=hR.val 1 _ (by rfl) rfl;have vv2:a.tmps.getD 36 undef=.agg #[.bool false,.string mq]:=hR.val 2 _ (by rfl) rfl;have vv3:a.tmps.getD 37 undef=.agg #[.bool false,.string mdb]:=hR.val 3 _ (by rfl) rfl;have vv4:a.tmps.getD 38 undef=.agg #[.bool false,.string mg]:=hR.val 4 _ (by rfl) rfl;have vv5:a.tmps.getD 39 undef=.agg #[.bool false,.string ms]:=hR.val 5 _ (by rfl) rfl;replace hg6:a.tmps.getD 10 undef=.pointer (some ⟨g6,0,none⟩):=hg6;replace hg7:a.tmps.getD 11 undef=.pointer (some ⟨g7,0,none⟩):=hg7;have hne:g6≠g7:=fun e=>hR.ne 6 7 _ _ _ _ g6 dc (by rfl) (by rfl) rfl rfl hg6 (by rw [e];exact hg7)
  have X:=hid (X.out.add2 hR.bel lg6 kg6 lg7 kg7 hne);have ha:=hR.act;simp only [List.foldl_cons,List.foldl_nil,seti,set0,setS,vv0,vv1,vv2,vv3,vv4,vv5,hg6,hg7] at ha;subst ha;clear hR vv0 vv1 vv2 vv3 vv4 vv5 hg6 lg6 kg6 hg7 lg7 kg7 hne;refine wpAny_of_late (S:=fun _=>True) (L:=[]) _ _ _ _ ?_;refine wpLate_one (i:=8) (o:=⟨none,_,_,_,_,_⟩) kx rfl (fun K hK=>?_);obtain ⟨x0,x1⟩:=X.out.c2 (i:=6) rfl;obtain ⟨y0,y1⟩:=X.out.f2 (i:=6) rfl;have X:=hid (X.out.set2 (i:=6) rfl (.bool false) (.string mq));go_simp;refine hK.out _ _ (Or.inr fun _=>trivial) ?_;clear hK K x0 x1 y0 y1;obtain ⟨W8,hV⟩:=wexi X.out;rw [←hV] at X ⊢;clear hV;try simp only [Act.put]
  refine wpLate_one (i:=9) (o:=⟨none,_,_,_,_,_⟩) kx rfl (fun K hK=>?_);obtain ⟨x0,x1⟩:=X.out.c2 (i:=7) rfl;obtain ⟨y0,y1⟩:=X.out.f2 (i:=7) rfl;have X:=hid (X.out.set2 (i:=7) rfl (.bool false) (.string ms));go_simp;refine hK.out _ _ (Or.inr fun _=>trivial) ?_;clear hK K x0 x1 y0 y1;obtain ⟨W9,hV⟩:=wexi X.out;rw [←hV] at X ⊢;clear hV;try simp only [Act.put]
  refine wpLate_done kx ?_ _;go_wp2_with fail
  go_meet;exact ⟨_,_,rfl,rfl,X.out.pick [0,1,2,4,5,6,7] _ [] rfl dc (by simp)⟩
 obtain ⟨g10,g11,rfl,rfl,hX⟩:=hcut;have X:=hid hX;clear hX;go_upto_region 6 with fail
 go_cut [12] (fun s12 wx=>∃ g12,s12=.pointer (some ⟨g12,0,none⟩)∧Sb w [(w.heap.size+1+1,#[.bool false,.string ⟨#[]⟩,.bool false,.string ⟨#[]⟩],25),(g8,#[.bool false,.string mdb],23),(g9,#[.bool false,.string mg],23),(g10,#[.bool false,.string mq],23),(g12,#[.bool bt,.string mt],23)] [] wx)
 case first =>
  refine wp_region_any kx ?_;have X:=hid X.out.drew;obtain ⟨W0,hV⟩:=wexi X.out;rw [show ∀ v:World,{ v with drawn:=v.drawn+1 }=v.drew from fun _=>rfl,←hV];rw [←hV] at X;clear hV;refine rg_run (ef:=[.val (.func (.func OP) #[] #[]),.val (.pointer (some ⟨w.heap.size,0,none⟩)),.val (.agg #[.bool b1,.string m1]),.val (.agg #[.bool false,.string ms]),.val (.agg #[.bool cx,.string sx]),.val (.pointer (some ⟨w.heap.size+1,0,none⟩)),.val (.agg #[.bool b2,.string m2]),.val (.agg #[.bool false,.string mq]),.val (.agg #[.bool cy,.string sy]),.val (.agg #[.bool bt,.string mt]),.new #[.bool false,.string ⟨#[]⟩] 23]) (ds:=[40,41,42,43,44,45,46,47,48,49,12]) kx (stays_none (by simp)) dc rfl (by intro d hd;simp at hd ⊢;omega) (fun i d o hd ho listed a w1 hR hdep K hK=>?_) 1 (fun a w1 hR=>?_)
  · have X:=hid (X.out.next hR.bel);have HKt:=hid hK;have HDp:=hid hdep;have sl2:a.tmps.getD 2 undef=.func (.func OP) #[] #[]:=hR.keep 2 dc;have sl3:a.tmps.getD 3 undef=.pointer (some ⟨w.heap.size,0,none⟩):=hR.keep 3 dc;have sl4:a.tmps.getD 4 undef=.pointer (some ⟨w.heap.size+1,0,none⟩):=hR.keep 4 dc;have sl10:a.tmps.getD 10 undef=.pointer (some ⟨g10,0,none⟩):=hR.keep 10 dc;have sl11:a.tmps.getD 11 undef=.pointer (some ⟨g11,0,none⟩):=hR.keep 11 dc;have HRg:=hid hR;clear hK hdep hR;rcases i with _ | _ | _ | _ | _ | _ | _ | _ | _ | _ | _ | i
    · exact k32
    · exact k32
    · cases hd;cases ho;obtain ⟨x00,x01,x02,x03⟩:=X.out.c4 (i:=0) rfl;obtain ⟨x10,x11,x12,x13⟩:=X.out.c4 (i:=1) rfl;obtain ⟨x50,x51⟩:=X.out.c2 (i:=5) rfl;obtain ⟨x60,x61⟩:=X.out.c2 (i:=6) rfl;have dd1:a.tmps.getD 41 undef=.pointer (some ⟨w.heap.size,0,none⟩):=HRg.out.val 1 _ (HDp.out 1 dc) rfl;go_simp;exact HKt.out _ _ (Or.inl ⟨rfl,Below.refl _ _⟩)
    · exact k25
    · cases hd;cases ho;have dd2:a.tmps.getD 42 undef=.agg #[.bool b1,.string m1]:=HRg.out.val 2 _ (HDp.out 2 dc) rfl;have dd3:a.tmps.getD 43 undef=.agg #[.bool false,.string ms]:=HRg.out.val 3 _ (HDp.out 3 dc) rfl;go_simp
      (go_at_call 132;refine (HT1.out _ (HE.out _ X.out.bel)).mono ?_;rintro e u ⟨rfl,hb9⟩)
      exact k26
    · exact k32
    · cases hd;cases ho;obtain ⟨x00,x01,x02,x03⟩:=X.out.c4 (i:=0) rfl;obtain ⟨x10,x11,x12,x13⟩:=X.out.c4 (i:=1) rfl;obtain ⟨x50,x51⟩:=X.out.c2 (i:=5) rfl;obtain ⟨x60,x61⟩:=X.out.c2 (i:=6) rfl;have dd5:a.tmps.getD 45 undef=.pointer (some ⟨w.heap.size+1,0,none⟩):=HRg.out.val 5 _ (HDp.out 5 dc) rfl;go_simp;exact HKt.out _ _ (Or.inl ⟨rfl,Below.refl _ _⟩)
    · exact k25
    · cases hd;cases ho;have dd4:a.tmps.getD 44 undef=.agg #[.bool cx,.string sx]:=HRg.out.val 4 _ (HDp.out 4 dc) rfl;have dd6:a.tmps.getD 46 undef=.agg #[.bool b2,.string m2]:=HRg.out.val 6 _ (HDp.out 6 dc) rfl;have dd7:a.tmps.getD 47 undef=.agg #[.bool false,.string mq]:=HRg.out.val 7 _ (HDp.out 7 dc) rfl;go_simp
      (go_at_call 132;refine (HT2.out _ (HE.out _ X.out.bel)).mono ?_;rintro e u ⟨rfl,hb9⟩)
      exact k26
    · cases hd;cases ho;have dd0:a.tmps.getD 40 undef=.func (.func OP) #[] #[]:=HRg.out.val 0 _ (HDp.out 0 dc) rfl;have dd4:a.tmps.getD 44 undef=.agg #[.bool cx,.string sx]:=HRg.out.val 4 _ (HDp.out 4 dc) rfl;have dd8:a.tmps.getD 48 undef=.agg #[.bool cy,.string sy]:=HRg.out.val 8 _ (HDp.out 8 dc) rfl;go_simp
      (refine (HOP.out _).mono ?_;rintro e u ⟨rfl,hb9⟩)
      exact k26
    · exact k15
    · cases hd
  obtain ⟨g10,hg10,lg10,kg10⟩:=hR.new 10 _ _ (by rfl) rfl;have vv0:a.tmps.getD 40 undef=.func (.func OP) #[] #[]:=hR.val 0 _ (by rfl) rfl;have vv1:a.tmps.getD 41 undef=.pointer (some ⟨w.heap.size,0,none⟩):=hR.val 1 _ (by rfl) rfl;have vv2:a.tmps.getD 42 undef=.agg #[.bool b1,.string m1]:=hR.val 2 _ (by rfl) rfl;have vv3:a.tmps.getD 43 undef=.agg #[.bool false,.string ms]:=hR.val 3 _ (by rfl) rfl;have vv4:a.tmps.getD 44 undef=.agg #[.bool cx,.string sx]:=hR.val 4 _ (by rfl) rfl;have vv5:a.tmps.getD 45 undef=.pointer (some ⟨w.heap.size+1,0,none⟩):=hR.val 5 _ (by rfl) rfl;have vv6:a.tmps.getD 46 undef=.agg #[.bool b2,.string m2]:=hR.val 6 _ (by rfl) rfl;have vv7:a.tmps.getD 47 undef=.agg #[.bool false,.string mq]:=hR.val 7 _ (by rfl) rfl;have vv8:a.tmps.getD 48 undef=.agg #[.bool cy,.string sy]:=hR.val 8 _ (by rfl) rfl;have vv9:a.tmps.getD 49 undef=.agg #[.bool bt,.string mt]:=hR.val 9 _ (by rfl) rfl;replace hg10:a.tmps.getD 12 undef=.pointer (some ⟨g10,0,none⟩):=hg10;have X:=hid (X.out.add hR.bel lg10 kg10);have ha:=hR.act;simp only [List.foldl_cons,List.foldl_nil,seti,set0,setS,vv0,vv1,vv2,vv3,vv4,vv5,vv6,vv7,vv8,vv9,hg10] at ha;subst ha;clear hR vv0 vv1 vv2 vv3 vv4 vv5 vv6 vv7 vv8 vv9 hg10 lg10 kg10;refine wpAny_of_late (S:=fun _=>True) (L:=[]) _ _ _ _ ?_;refine wpLate_one (i:=11) (o:=⟨none,_,_,_,_,_⟩) kx rfl (fun K hK=>?_);obtain ⟨x0,x1⟩:=X.out.c2 (i:=7) rfl;obtain ⟨y0,y1⟩:=X.out.f2 (i:=7) rfl;have X:=hid (X.out.set2 (i:=7) rfl (.bool bt) (.string mt));go_simp;refine hK.out _ _ (Or.inr fun _=>trivial) ?_;clear hK K x0 x1 y0 y1;obtain ⟨W11,hV⟩:=wexi X.out;rw [←hV] at X ⊢;clear hV;try simp only [Act.put]
  refine wpLate_done kx ?_ _;go_wp2_with fail
  go_meet;exact ⟨_,rfl,X.out.pick [2,3,4,5,7] _ [] rfl dc (by simp)⟩
 obtain ⟨g12,rfl,hX⟩:=hcut;have X:=hid hX;clear hX;go_upto_region 7 with fail
 go_cut [52] (fun s52 wx=>s52=.bool (decide (g≠1))∧Sb w [(w.heap.size+1+1,#[.bool false,.string ⟨#[]⟩,.bool false,.string ⟨#[]⟩],25),(g8,#[.bool false,.string mdb],23),(g9,#[.bool false,.string mg],23),(g10,#[.bool false,.string mq],23),(g12,#[.bool bt,.string mt],23)] [] wx)
 case first =>
  have HEV:=HE.out _ X.out.bel;have o0:=HEV.o0;have o1:=HEV.o1;clear HEV;obtain ⟨x0,x1⟩:=X.out.c2 (i:=2) rfl;rcases HG.out with ⟨hg1,hbn,hmn,hdb⟩ | ⟨hg1,hno,hno2⟩
  · have hm1:mg=⟨#[1]⟩:=by rw [←HMG.out,hg1];exact mag_one
    have hl1:mg.toList=[1]:=by rw [hm1,ByteArray.toList_eq]
    have HDC:=hid (decide_eq_false (show ¬(g≠1) from fun h=>h hg1));clear hg1 hbn hmn hdb hm1;go_wp2_with fail
    go_meet;exact ⟨by rw [HDC.out],X.out⟩
  · have HDC:=hid (decide_eq_true hg1);clear hg1;go_wp2_with fail
    go_meet;exact ⟨by rw [HDC.out],X.out⟩
 obtain ⟨rfl,hX⟩:=hcut;have X:=hid hX;clear hX;apply_assumption;go_cut [] (fun wx=>Sb w [(w.heap.size+1+1,#[.bool false,.string ⟨#[]⟩,.bool false,.string ⟨#[]⟩],25),(g10,#[.bool false,.string mq],23),(g12,#[.bool bn,.string mn],23),(g8,#[.bool false,.string md2],23)] [] wx)
 case first =>
  rcases HG.out with ⟨hg1,hbn,hmn,hdb⟩ | ⟨hg1,_,_⟩
  · rw [decide_eq_false (show ¬(g≠1) from fun h=>h hg1)];have hdd:md2=mdb:=by rw [←HM.out.1,←HM.out.2,hdb]
    subst hbn;subst hmn;subst hdd;clear hg1 hdb;go_wp2_with fail
    go_meet;exact X.out.pick [0,3,4,1] _ [] rfl dc (by simp)
  · rw [decide_eq_true hg1];clear hg1;obtain ⟨x0,x1⟩:=X.out.c2 (i:=2) rfl;obtain ⟨z0,z1⟩:=X.out.c2 (i:=4) rfl;go_wp2_with fail
    refine (HGC.out _ (HE.out _ X.out.bel)).mono ?_;rintro e w8 ⟨rfl,hb9⟩;have X:=hid (X.out.next hb9);clear hb9;clear x0 x1 z0 z1;have X:=hid (X.out.new #[.bool false,.string mv] 23);obtain ⟨g13,hg13⟩:∃ g,g=w8.heap.size:=⟨_,rfl⟩
    rw [←hg13] at X;go_upto_region 9 with fail
    rw [←hg13];clear hg13
    as_aux_lemma =>
     refine wp_region_late (S:=fun w'=>(w'.cell? ⟨g12,0,none⟩=some (.bool bt)∧w'.cell? ⟨g12,1,none⟩=some (.string mt))∧(w'.cell? ⟨g8,0,none⟩=some (.bool false)∧w'.cell? ⟨g8,1,none⟩=some (.string mdb))∧(w'.cell? ⟨g13,0,none⟩=some (.bool false)∧w'.cell? ⟨g13,1,none⟩=some (.string mv))) (L:=[6,7]) kx ?_;have X:=hid X.out.drew;obtain ⟨V0,hV⟩:=wexi X.out;rw [←hV] at X ⊢;clear hV;refine tk (i:=0) (oi:=⟨some 56,_,_,_,_,_⟩) (v:=_) rfl kx ix (⟨X.out.c2 (i:=4) rfl,X.out.c2 (i:=1) rfl,X.out.c2 (i:=5) rfl⟩) sl ?_;try simp only [Act.put,seti,set0,setS]
     refine tk (i:=1) (oi:=⟨some 57,_,_,_,_,_⟩) (v:=_) rfl kx ix (⟨X.out.c2 (i:=4) rfl,X.out.c2 (i:=1) rfl,X.out.c2 (i:=5) rfl⟩) sl ?_;try simp only [Act.put,seti,set0,setS]
     refine tk (i:=3) (oi:=⟨some 59,_,_,_,_,_⟩) (v:=_) rfl kx ix (⟨X.out.c2 (i:=4) rfl,X.out.c2 (i:=1) rfl,X.out.c2 (i:=5) rfl⟩) sl ?_;try simp only [Act.put,seti,set0,setS]
     refine tk (i:=4) (oi:=⟨some 60,_,_,_,_,_⟩) (v:=_) rfl kx ix (⟨X.out.c2 (i:=4) rfl,X.out.c2 (i:=1) rfl,X.out.c2 (i:=5) rfl⟩) sl ?_;try simp only [Act.put,seti,set0,setS]
     refine wpLate_one (i:=2) (o:=⟨some 58,_,_,_,_,_⟩) kx rfl (fun K hK=>?_);go_simp
     (go_at_call 133;refine (HQ3.out _ (HE.out _ X.out.bel)).mono ?_;rintro e u1 ⟨rfl,hb9⟩;have X:=hid (X.out.next hb9);clear hb9)
     try go_wp2_with fail
     refine hK.out _ _ (Or.inr (fun _=>⟨X.out.c2 (i:=4) rfl,X.out.c2 (i:=1) rfl,X.out.c2 (i:=5) rfl⟩)) ?_;clear hK K;try simp only [Act.put,seti,set0,setS]
     refine wpLate_one (i:=5) (o:=⟨some 61,_,_,_,_,_⟩) kx rfl (fun K hK=>?_);go_simp
     (go_at_call 133;refine (HQ4.out _ (HE.out _ X.out.bel)).mono ?_;rintro e u2 ⟨rfl,hb9⟩;have X:=hid (X.out.next hb9);clear hb9)
     try go_wp2_with fail
     refine hK.out _ _ (Or.inr (fun _=>⟨X.out.c2 (i:=4) rfl,X.out.c2 (i:=1) rfl,X.out.c2 (i:=5) rfl⟩)) ?_;clear hK K;try simp only [Act.put,seti,set0,setS]
     refine wpLate_one (i:=6) (o:=⟨none,_,_,_,_,_⟩) kx rfl (fun K hK=>?_);obtain ⟨x0,x1⟩:=X.out.c2 (i:=4) rfl;obtain ⟨y0,y1⟩:=X.out.f2 (i:=4) rfl;have X:=hid (X.out.set2 (i:=4) rfl (.bool bn) (.string mn));go_simp;refine hK.out _ _ (Or.inl (by rfl)) ?_;clear hK K x0 x1 y0 y1;try simp only [Act.put,seti,set0,setS]
     obtain ⟨W3,hV⟩:=wexi X.out;rw [←hV] at X ⊢;clear hV;refine wpLate_one (i:=7) (o:=⟨none,_,_,_,_,_⟩) kx rfl (fun K hK=>?_);obtain ⟨x0,x1⟩:=X.out.c2 (i:=1) rfl;obtain ⟨y0,y1⟩:=X.out.f2 (i:=1) rfl;have X:=hid (X.out.set2 (i:=1) rfl (.bool false) (.string md2));go_simp;refine hK.out _ _ (Or.inl (by rfl)) ?_;clear hK K x0 x1 y0 y1;try simp only [Act.put,seti,set0,setS]
     obtain ⟨W4,hV⟩:=wexi X.out;rw [←hV] at X ⊢;clear hV;refine wpLate_done kx ?_ _;go_wp2_with fail
     go_meet;exact X.out.pick [0,3,4,1] _ [] rfl dc (by simp)
 have X:=hid hcut;clear hcut;go_upto_region 10 with fail
 as_aux_lemma =>
  refine wp_region_late (S:=fun w'=>(w'.cell? ⟨g10,0,none⟩=some (.bool false)∧w'.cell? ⟨g10,1,none⟩=some (.string mq))∧(w'.cell? ⟨g12,0,none⟩=some (.bool bn)∧w'.cell? ⟨g12,1,none⟩=some (.string mn))∧(w'.cell? ⟨g8,0,none⟩=some (.bool false)∧w'.cell? ⟨g8,1,none⟩=some (.string md2))) (L:=[]) kx ?_;have X:=hid X.out.drew;obtain ⟨V0,hV⟩:=wexi X.out;rw [←hV] at X ⊢;clear hV;refine tk (i:=0) (oi:=⟨some 62,_,_,_,_,_⟩) (v:=_) rfl kx ix (⟨X.out.c2 (i:=1) rfl,X.out.c2 (i:=2) rfl,X.out.c2 (i:=3) rfl⟩) sl ?_;try simp only [Act.put,seti,set0,setS]
  refine tk (i:=1) (oi:=⟨some 63,_,_,_,_,_⟩) (v:=_) rfl kx ix (⟨X.out.c2 (i:=1) rfl,X.out.c2 (i:=2) rfl,X.out.c2 (i:=3) rfl⟩) sl ?_;try simp only [Act.put,seti,set0,setS]
  refine tk (i:=2) (oi:=⟨some 64,_,_,_,_,_⟩) (v:=_) rfl kx ix (⟨X.out.c2 (i:=1) rfl,X.out.c2 (i:=2) rfl,X.out.c2 (i:=3) rfl⟩) sl ?_;try simp only [Act.put,seti,set0,setS]
  refine wpLate_one (i:=3) (o:=⟨some 65,_,_,_,_,_⟩) kx rfl (fun K hK=>?_);go_simp
  (go_at_call 132;refine (HT3.out _ (HE.out _ X.out.bel)).mono ?_;rintro e u1 ⟨rfl,hb9⟩;have X:=hid (X.out.next hb9);clear hb9)
  try go_wp2_with fail
  refine hK.out _ _ (Or.inr (fun _=>⟨X.out.c2 (i:=1) rfl,X.out.c2 (i:=2) rfl,X.out.c2 (i:=3) rfl⟩)) ?_;clear hK K;try simp only [Act.put,seti,set0,setS]
  refine wpLate_one (i:=4) (o:=⟨some 66,_,_,_,_,_⟩) kx rfl (fun K hK=>?_);go_simp
  (go_at_call 129;refine (HCP.out _ (HE.out _ X.out.bel)).mono ?_;rintro e u2 ⟨rfl,hb9⟩;have X:=hid (X.out.next hb9);clear hb9)
  try go_wp2_with fail
  refine hK.out _ _ (Or.inr (fun _=>⟨X.out.c2 (i:=1) rfl,X.out.c2 (i:=2) rfl,X.out.c2 (i:=3) rfl⟩)) ?_;clear hK K;try simp only [Act.put,seti,set0,setS]
  refine wpLate_one (i:=5) (o:=⟨none,_,_,_,_,_⟩) kx rfl (fun K hK=>?_);obtain ⟨x0,x1,x2,x3⟩:=X.out.c4 (i:=0) rfl;obtain ⟨y0,y1,y2,y3⟩:=X.out.f4 (i:=0) rfl;have X:=hid (X.out.set4 (i:=0) rfl (.bool bn) (.string mn) (.bool false) (.string (dm dd)));go_simp;refine hK.out _ _ (Or.inr (fun _=>⟨X.out.c2 (i:=1) rfl,X.out.c2 (i:=2) rfl,X.out.c2 (i:=3) rfl⟩)) ?_;clear hK K x0 x1 x2 x3 y0 y1 y2 y3;try simp only [Act.put,seti,set0,setS]
  obtain ⟨W3,hV⟩:=wexi X.out;rw [←hV] at X ⊢;clear hV;refine wpLate_done kx ?_ _;go_wp2
  obtain ⟨p0,p1,p2,p3⟩:=X.out.c4 (i:=0) rfl;exact bodyPost_ret (v:=.agg #[.bool bn,.string mn,.bool false,.string (dm dd)]) (by simp [results,Tryz.results137,go_sem,p0,p1,p2,p3]) rfl ⟨rfl,X.out.bel⟩
end Go.Proofs.YtpnokfgplnmjpaaGreatDoor
