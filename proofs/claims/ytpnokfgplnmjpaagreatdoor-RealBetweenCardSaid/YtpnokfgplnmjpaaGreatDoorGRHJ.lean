import Derived.Test.YtpnokfgplnmjpaaGreatDoorGPk
import Derived.Test.YtpnokfgplnmjpaaGreatDoorGRCA
import Derived.Test.YtpnokfgplnmjpaaGreatDoorGRHI
import Derived.Test.YtpnokfgplnmjpaaGreatDoorGQW
set_option linter.unusedSimpArgs false
set_option linter.unusedVariables false
set_option maxRecDepth 100000
set_option maxHeartbeats 16000000
open Go.Lib (hid)
open Go.Proofs.Tryz (prog)
namespace Go.Proofs.YtpnokfgplnmjpaaGreatDoor
open Go.RowKit
attribute [local go_sem ↓] Go.wp_at_zero Go.wp_at_succ
theorem divInt_self2 (q:Rat):Rat.divInt q.num (q.den:Int)=q:=by rw [Rat.divInt_ofNat];exact Rat.mkRat_self q
theorem rMul_f {p q:Rat} {b1 b2 b3:Bool} {m1 m2 m3 k1 k2 k3:ByteArray} (hp:Rq p b1 m1 k1) (hq:Rq q b2 m2 k2) (hr:Rq (p*q) b3 m3 k3) (s1:m1.size≤10000) (s2:m2.size≤10000) (s3:(mag p.den).size≤10000) (s4:(mag q.den).size≤10000) (w:World) :
  Calls prog 78 #[.agg #[.bool b1,.string m1,.bool false,.string k1],.agg #[.bool b2,.string m2,.bool false,.string k2]] w (RetB w (.agg #[.bool b3,.string m3,.bool false,.string k3])):=by
 have ks:∀ {x:Rat} {b:Bool} {m k:ByteArray},Rq x b m k→(mag x.den).size≤10000→k.size≤10000:=fun {x b m k} h hs=>by
  exact k43
 have HF1:=hid (fun V=>rof2 hp om (by have:=ks hp s3;omega) V);have HF2:=hid (fun V=>rof2 hq om (by have:=ks hq s4;omega) V);have n0:nd p.num.natAbs≤10000:=by unfold nd;rw [←hp.mag.2];exact s1
 have n1:nd p.den≤10000:=s3;have n2:nd q.num.natAbs≤10000:=by unfold nd;rw [←hq.mag.2];exact s2
 have n3:nd q.den≤10000:=s4;have HN0:=hid n0;have HN1:=hid n1;have HN2:=hid n2;have HN3:=hid n3;have n4:=nd_mul p.num.natAbs q.num.natAbs;have n5:=nd_mul p.den q.den
 have hr':Rq (mkRat (sgn (b1 != b2) (p.num.natAbs*q.num.natAbs)) (p.den*q.den)) b3 m3 k3:=by
  rw [hp.mag.1,hq.mag.1,sgn_mul,←Rat.mul_def'];exact hr
 have hY:0<p.den*q.den:=Nat.mul_pos p.den_pos q.den_pos
 have hcn:∀ (A B:Option Addr) (n m c d:Nat) (V:World),Tr V A n c (p.num.natAbs*q.num.natAbs)→Tr V B m d (p.den*q.den)→Calls prog 123 #[.agg #[.bool (b1 != b2),.slice A n c,.slice B m d]] V (RetB V (.agg #[.bool b3,.string m3,.bool false,.string k3])):=by
  intro A B n m c d V hA hB;refine (rcanonical (b1 != b2) A B n m c d _ _ V (by have:=hA.ln;omega) (by have:=hB.ln;omega) hA hB hY).mono ?_;exact k45
 have HCN:=hid hcn;have X:=hid ((((Sb.start w).new #[.bool b1,.string m1,.bool false,.string k1] 25).new #[.bool b2,.string m2,.bool false,.string k2] 25).new #[.bool false,.string ⟨#[]⟩,.bool false,.string ⟨#[]⟩] 25);have X:=hid (X.out.pick [0,1,2] [(w.heap.size,#[.bool b1,.string m1,.bool false,.string k1],25),(w.heap.size+1,#[.bool b2,.string m2,.bool false,.string k2],25),(w.heap.size+1+1,#[.bool false,.string ⟨#[]⟩,.bool false,.string ⟨#[]⟩],25)] [] (by simp) dc (by simp));clear hp hq hr hr' hcn hY n0 n1 n2 n3 n4 n5 s1 s2 s3 s4 ks;go_enter Tryz.func78,Tryz.ntmps78;go_upto_region 1 with fail
 go_cut [5,6] (fun s5 s6 wx=>∃ g5 g6 A1 n1 c1 B1 x1 d1 A3 n3 c3 B3 x3 d3,s5=.pointer (some ⟨g5,0,none⟩)∧s6=.pointer (some ⟨g6,0,none⟩)∧Sb w [(w.heap.size+1+1,#[.bool false,.string ⟨#[]⟩,.bool false,.string ⟨#[]⟩],25),(g5,#[.bool b1,.slice A1 n1 c1,.slice B1 x1 d1],110),(g6,#[.bool b2,.slice A3 n3 c3,.slice B3 x3 d3],110)] [(A1,n1,c1,p.num.natAbs),(B1,x1,d1,p.den),(A3,n3,c3,q.num.natAbs),(B3,x3,d3,q.den)] wx)
 case first =>
  exact YtpnokfgplnmjpaaGreatDoor.k4
 obtain ⟨g5,g6,A1,n1,c1,B1,x1,d1,A3,n3,c3,B3,x3,d3,rfl,rfl,hX⟩:=hcut;have X:=hid hX;clear hX;go_upto_region 2 with fail
 refine wp_region_late (S:=fun w'=>(w'.cell? ⟨g5,0,none⟩=some (.bool b1)∧w'.cell? ⟨g5,1,none⟩=some (.slice A1 n1 c1)∧w'.cell? ⟨g5,2,none⟩=some (.slice B1 x1 d1))∧(w'.cell? ⟨g6,0,none⟩=some (.bool b2)∧w'.cell? ⟨g6,1,none⟩=some (.slice A3 n3 c3)∧w'.cell? ⟨g6,2,none⟩=some (.slice B3 x3 d3))) (L:=[]) kx ?_;have X:=hid X.out.drew;obtain ⟨V0,hV⟩:=wexi X.out;rw [←hV] at X ⊢;clear hV;refine tk (i:=0) (oi:=⟨some 11,_,_,_,_,_⟩) (v:=_) rfl kx ix c12 sl ?_;try simp only [Act.put,seti,set0,setS]
 refine tk (i:=1) (oi:=⟨some 12,_,_,_,_,_⟩) (v:=_) rfl kx ix c12 sl ?_;try simp only [Act.put,seti,set0,setS]
 refine tk (i:=2) (oi:=⟨some 13,_,_,_,_,_⟩) (v:=_) rfl kx ix c12 sl ?_;try simp only [Act.put,seti,set0,setS]
 refine tk (i:=3) (oi:=⟨some 14,_,_,_,_,_⟩) (v:=_) rfl kx ix c12 sl ?_;try simp only [Act.put,seti,set0,setS]
 refine tk (i:=4) (oi:=⟨some 15,_,_,_,_,_⟩) (v:=_) rfl kx ix c12 sl ?_;try simp only [Act.put,seti,set0,setS]
 refine tk (i:=5) (oi:=⟨some 16,_,_,_,_,_⟩) (v:=_) rfl kx ix c12 sl ?_;try simp only [Act.put,seti,set0,setS]
 refine tk (i:=6) (oi:=⟨some 17,_,_,_,_,_⟩) (v:=_) rfl kx ix c12 sl ?_;try simp only [Act.put,seti,set0,setS]
 refine tk (i:=7) (oi:=⟨some 18,_,_,_,_,_⟩) (v:=_) rfl kx ix c12 sl ?_;try simp only [Act.put,seti,set0,setS]
 refine tk (i:=8) (oi:=⟨some 19,_,_,_,_,_⟩) (v:=_) rfl kx ix c12 sl ?_;try simp only [Act.put,seti,set0,setS]
 refine tk (i:=10) (oi:=⟨some 21,_,_,_,_,_⟩) (v:=_) rfl kx ix c12 sl ?_;try simp only [Act.put,seti,set0,setS]
 refine tk (i:=11) (oi:=⟨some 22,_,_,_,_,_⟩) (v:=_) rfl kx ix c12 sl ?_;try simp only [Act.put,seti,set0,setS]
 refine tk (i:=12) (oi:=⟨some 23,_,_,_,_,_⟩) (v:=_) rfl kx ix c12 sl ?_;try simp only [Act.put,seti,set0,setS]
 refine tk (i:=13) (oi:=⟨some 24,_,_,_,_,_⟩) (v:=_) rfl kx ix c12 sl ?_;try simp only [Act.put,seti,set0,setS]
 refine wpLate_one (i:=9) (o:=⟨some 20,_,_,_,_,_⟩) kx rfl (fun K hK=>?_);go_simp
 (go_at_call 122;refine (rtimes _ _ _ _ _ _ _ _ _ (by have h:=(X.out.rw (i:=0) rfl).ln;have h2:=HN0.out;omega) (by have h:=(X.out.rw (i:=2) rfl).ln;have h2:=HN2.out;omega) (X.out.rw (i:=0) rfl).dg (X.out.rw (i:=2) rfl).dg).mono ?_;rintro e u1 ⟨A1,n1,c1,rfl,ht9,hb9,hf9⟩;have X:=hid (X.out.row hb9 ht9 hf9);clear hb9 ht9 hf9)
 try go_wp2_with fail
 refine hK.out _ _ (Or.inr (fun _=>⟨X.out.c3 (i:=1) rfl,X.out.c3 (i:=2) rfl⟩)) ?_;clear hK K;try simp only [Act.put,seti,set0,setS]
 refine wpLate_one (i:=14) (o:=⟨some 25,_,_,_,_,_⟩) kx rfl (fun K hK=>?_);go_simp
 (go_at_call 122;refine (rtimes _ _ _ _ _ _ _ _ _ (by have h:=(X.out.rw (i:=1) rfl).ln;have h2:=HN1.out;omega) (by have h:=(X.out.rw (i:=3) rfl).ln;have h2:=HN3.out;omega) (X.out.rw (i:=1) rfl).dg (X.out.rw (i:=3) rfl).dg).mono ?_;rintro e u2 ⟨A2,n2,c2,rfl,ht9,hb9,hf9⟩;have X:=hid (X.out.row hb9 ht9 hf9);clear hb9 ht9 hf9)
 try go_wp2_with fail
 refine hK.out _ _ (Or.inr (fun _=>⟨X.out.c3 (i:=1) rfl,X.out.c3 (i:=2) rfl⟩)) ?_;clear hK K;try simp only [Act.put,seti,set0,setS]
 refine tk (i:=15) (oi:=⟨some 26,_,_,_,_,_⟩) (v:=_) rfl kx ix c12 sl ?_;try simp only [Act.put,seti,set0,setS]
 refine wpLate_one (i:=16) (o:=⟨some 27,_,_,_,_,_⟩) kx rfl (fun K hK=>?_);go_simp
 (go_at_call 123;refine (HCN.out _ _ _ _ _ _ _ (X.out.rw (i:=4) rfl) (X.out.rw (i:=5) rfl)).mono ?_;rintro e u3 ⟨rfl,hb9⟩;have X:=hid (X.out.next hb9);clear hb9)
 try go_wp2_with fail
 refine hK.out _ _ (Or.inr (fun _=>⟨X.out.c3 (i:=1) rfl,X.out.c3 (i:=2) rfl⟩)) ?_;clear hK K;try simp only [Act.put,seti,set0,setS]
 refine wpLate_one (i:=17) (o:=⟨none,_,_,_,_,_⟩) kx rfl (fun K hK=>?_);obtain ⟨x0,x1,x2,x3⟩:=X.out.c4 (i:=0) rfl;obtain ⟨y0,y1,y2,y3⟩:=X.out.f4 (i:=0) rfl;have X:=hid (X.out.set4 (i:=0) rfl (.bool b3) (.string m3) (.bool false) (.string k3));go_simp;refine hK.out _ _ (Or.inr (fun _=>⟨X.out.c3 (i:=1) rfl,X.out.c3 (i:=2) rfl⟩)) ?_;clear hK K x0 x1 x2 x3 y0 y1 y2 y3;try simp only [Act.put,seti,set0,setS]
 obtain ⟨W4,hV⟩:=wexi X.out;rw [←hV] at X ⊢;clear hV;refine wpLate_done kx ?_ _;go_wp2
 obtain ⟨p0,p1,p2,p3⟩:=X.out.c4 (i:=0) rfl;exact bodyPost_ret (v:=.agg #[.bool b3,.string m3,.bool false,.string k3]) (by simp [results,Tryz.results78,go_sem,p0,p1,p2,p3]) rfl ⟨rfl,X.out.bel⟩
theorem rDiv_f {p q:Rat} {b1 b2 b3:Bool} {m1 m2 m3 k1 k2 k3:ByteArray} (hp:Rq p b1 m1 k1) (hq:Rq q b2 m2 k2) (hr:Rq (p / q) b3 m3 k3) (h0:q.num≠0) (s1:m1.size≤10000) (s2:m2.size≤10000) (s3:(mag p.den).size≤10000) (s4:(mag q.den).size≤10000) (w:World) :
  Calls prog 82 #[.agg #[.bool b1,.string m1,.bool false,.string k1],.agg #[.bool b2,.string m2,.bool false,.string k2]] w (RetB w (.agg #[.bool b3,.string m3,.bool false,.string k3])):=by
 have ks:∀ {x:Rat} {b:Bool} {m k:ByteArray},Rq x b m k→(mag x.den).size≤10000→k.size≤10000:=fun {x b m k} h hs=>by
  exact k43
 have HF1:=hid (fun V=>rof2 hp om (by have:=ks hp s3;omega) V);have HF2:=hid (fun V=>rof2 hq om (by have:=ks hq s4;omega) V);have n0:nd p.num.natAbs≤10000:=by unfold nd;rw [←hp.mag.2];exact s1
 have n1:nd p.den≤10000:=s3;have n2:nd q.num.natAbs≤10000:=by unfold nd;rw [←hq.mag.2];exact s2
 have n3:nd q.den≤10000:=s4;have HN0:=hid n0;have HN1:=hid n1;have HN2:=hid n2;have HN3:=hid n3;have n4:=nd_mul p.num.natAbs q.den;have n5:=nd_mul p.den q.num.natAbs
 have hr':Rq (mkRat (sgn (b1 != b2) (p.num.natAbs*q.den)) (p.den*q.num.natAbs)) b3 m3 k3:=by
  have h1:=mk_divInt (p.num*(q.den:Int)) ((p.den:Int)*q.num) (Int.mul_ne_zero (by have:=p.den_nz;omega) h0)
  have e1:decide (p.num*(q.den:Int)<0)=b1:=by
   rw [hp.mag.1];have:=q.den_pos;exact decide_eq_decide.2 ⟨fun h=>by rcases Int.lt_or_le p.num 0 with h2 | h2;exact h2;exact absurd h (by have:=Int.mul_nonneg h2 (show (0:Int)≤q.den by omega);omega),fun h=>Int.mul_neg_of_neg_of_pos h om⟩
  have e2:decide ((p.den:Int)*q.num<0)=b2:=by
   rw [hq.mag.1];have:=p.den_pos;exact decide_eq_decide.2 ⟨fun h=>by rcases Int.lt_or_le q.num 0 with h2 | h2;exact h2;exact absurd h (by have:=Int.mul_nonneg (show (0:Int)≤p.den by omega) h2;omega),fun h=>Int.mul_neg_of_pos_of_neg om h⟩
  rw [e1,e2,Int.natAbs_mul,Int.natAbs_mul,Int.natAbs_natCast,Int.natAbs_natCast] at h1;rw [h1]
  have h2:p / q=Rat.divInt (p.num*(q.den:Int)) ((p.den:Int)*q.num):=by
   rw [Rat.div_def,Rat.inv_def]
   conv=>lhs;lhs;rw [←divInt_self2 p]
   exact Rat.divInt_mul_divInt _ _
  rw [←h2];exact hr
 have hY:0<p.den*q.num.natAbs:=Nat.mul_pos p.den_pos om
 have hcn:∀ (A B:Option Addr) (n m c d:Nat) (V:World),Tr V A n c (p.num.natAbs*q.den)→Tr V B m d (p.den*q.num.natAbs)→Calls prog 123 #[.agg #[.bool (b1 != b2),.slice A n c,.slice B m d]] V (RetB V (.agg #[.bool b3,.string m3,.bool false,.string k3])):=by
  intro A B n m c d V hA hB;refine (rcanonical (b1 != b2) A B n m c d _ _ V (by have:=hA.ln;omega) (by have:=hB.ln;omega) hA hB hY).mono ?_;exact k45
 have HCN:=hid hcn;have X:=hid ((((Sb.start w).new #[.bool b1,.string m1,.bool false,.string k1] 25).new #[.bool b2,.string m2,.bool false,.string k2] 25).new #[.bool false,.string ⟨#[]⟩,.bool false,.string ⟨#[]⟩] 25);have X:=hid (X.out.pick [0,1,2] [(w.heap.size,#[.bool b1,.string m1,.bool false,.string k1],25),(w.heap.size+1,#[.bool b2,.string m2,.bool false,.string k2],25),(w.heap.size+1+1,#[.bool false,.string ⟨#[]⟩,.bool false,.string ⟨#[]⟩],25)] [] (by simp) dc (by simp));clear hp hq hr hr' hcn hY n0 n1 n2 n3 n4 n5 s1 s2 s3 s4 ks h0;go_enter Tryz.func82,Tryz.ntmps82;go_upto_region 1 with fail
 go_cut [5,6] (fun s5 s6 wx=>∃ g5 g6 A1 n1 c1 B1 x1 d1 A3 n3 c3 B3 x3 d3,s5=.pointer (some ⟨g5,0,none⟩)∧s6=.pointer (some ⟨g6,0,none⟩)∧Sb w [(w.heap.size+1+1,#[.bool false,.string ⟨#[]⟩,.bool false,.string ⟨#[]⟩],25),(g5,#[.bool b1,.slice A1 n1 c1,.slice B1 x1 d1],110),(g6,#[.bool b2,.slice A3 n3 c3,.slice B3 x3 d3],110)] [(A1,n1,c1,p.num.natAbs),(B1,x1,d1,p.den),(A3,n3,c3,q.num.natAbs),(B3,x3,d3,q.den)] wx)
 case first =>
  exact YtpnokfgplnmjpaaGreatDoor.k4
 obtain ⟨g5,g6,A1,n1,c1,B1,x1,d1,A3,n3,c3,B3,x3,d3,rfl,rfl,hX⟩:=hcut;have X:=hid hX;clear hX;go_upto_region 2 with fail
 refine wp_region_late (S:=fun w'=>(w'.cell? ⟨g5,0,none⟩=some (.bool b1)∧w'.cell? ⟨g5,1,none⟩=some (.slice A1 n1 c1)∧w'.cell? ⟨g5,2,none⟩=some (.slice B1 x1 d1))∧(w'.cell? ⟨g6,0,none⟩=some (.bool b2)∧w'.cell? ⟨g6,1,none⟩=some (.slice A3 n3 c3)∧w'.cell? ⟨g6,2,none⟩=some (.slice B3 x3 d3))) (L:=[]) kx ?_;have X:=hid X.out.drew;obtain ⟨V0,hV⟩:=wexi X.out;rw [←hV] at X ⊢;clear hV;refine tk (i:=0) (oi:=⟨some 11,_,_,_,_,_⟩) (v:=_) rfl kx ix c12 sl ?_;try simp only [Act.put,seti,set0,setS]
 refine tk (i:=1) (oi:=⟨some 12,_,_,_,_,_⟩) (v:=_) rfl kx ix c12 sl ?_;try simp only [Act.put,seti,set0,setS]
 refine tk (i:=2) (oi:=⟨some 13,_,_,_,_,_⟩) (v:=_) rfl kx ix c12 sl ?_;try simp only [Act.put,seti,set0,setS]
 refine tk (i:=3) (oi:=⟨some 14,_,_,_,_,_⟩) (v:=_) rfl kx ix c12 sl ?_;try simp only [Act.put,seti,set0,setS]
 refine tk (i:=4) (oi:=⟨some 15,_,_,_,_,_⟩) (v:=_) rfl kx ix c12 sl ?_;try simp only [Act.put,seti,set0,setS]
 refine tk (i:=5) (oi:=⟨some 16,_,_,_,_,_⟩) (v:=_) rfl kx ix c12 sl ?_;try simp only [Act.put,seti,set0,setS]
 refine tk (i:=6) (oi:=⟨some 17,_,_,_,_,_⟩) (v:=_) rfl kx ix c12 sl ?_;try simp only [Act.put,seti,set0,setS]
 refine tk (i:=7) (oi:=⟨some 18,_,_,_,_,_⟩) (v:=_) rfl kx ix c12 sl ?_;try simp only [Act.put,seti,set0,setS]
 refine tk (i:=8) (oi:=⟨some 19,_,_,_,_,_⟩) (v:=_) rfl kx ix c12 sl ?_;try simp only [Act.put,seti,set0,setS]
 refine tk (i:=10) (oi:=⟨some 21,_,_,_,_,_⟩) (v:=_) rfl kx ix c12 sl ?_;try simp only [Act.put,seti,set0,setS]
 refine tk (i:=11) (oi:=⟨some 22,_,_,_,_,_⟩) (v:=_) rfl kx ix c12 sl ?_;try simp only [Act.put,seti,set0,setS]
 refine tk (i:=12) (oi:=⟨some 23,_,_,_,_,_⟩) (v:=_) rfl kx ix c12 sl ?_;try simp only [Act.put,seti,set0,setS]
 refine tk (i:=13) (oi:=⟨some 24,_,_,_,_,_⟩) (v:=_) rfl kx ix c12 sl ?_;try simp only [Act.put,seti,set0,setS]
 refine wpLate_one (i:=9) (o:=⟨some 20,_,_,_,_,_⟩) kx rfl (fun K hK=>?_);go_simp
 (go_at_call 122;refine (rtimes _ _ _ _ _ _ _ _ _ (by have h:=(X.out.rw (i:=0) rfl).ln;have h2:=HN0.out;omega) (by have h:=(X.out.rw (i:=3) rfl).ln;have h2:=HN3.out;omega) (X.out.rw (i:=0) rfl).dg (X.out.rw (i:=3) rfl).dg).mono ?_;rintro e u1 ⟨A1,n1,c1,rfl,ht9,hb9,hf9⟩;have X:=hid (X.out.row hb9 ht9 hf9);clear hb9 ht9 hf9)
 try go_wp2_with fail
 refine hK.out _ _ (Or.inr (fun _=>⟨X.out.c3 (i:=1) rfl,X.out.c3 (i:=2) rfl⟩)) ?_;clear hK K;try simp only [Act.put,seti,set0,setS]
 refine wpLate_one (i:=14) (o:=⟨some 25,_,_,_,_,_⟩) kx rfl (fun K hK=>?_);go_simp
 (go_at_call 122;refine (rtimes _ _ _ _ _ _ _ _ _ (by have h:=(X.out.rw (i:=1) rfl).ln;have h2:=HN1.out;omega) (by have h:=(X.out.rw (i:=2) rfl).ln;have h2:=HN2.out;omega) (X.out.rw (i:=1) rfl).dg (X.out.rw (i:=2) rfl).dg).mono ?_;rintro e u2 ⟨A2,n2,c2,rfl,ht9,hb9,hf9⟩;have X:=hid (X.out.row hb9 ht9 hf9);clear hb9 ht9 hf9)
 try go_wp2_with fail
 refine hK.out _ _ (Or.inr (fun _=>⟨X.out.c3 (i:=1) rfl,X.out.c3 (i:=2) rfl⟩)) ?_;clear hK K;try simp only [Act.put,seti,set0,setS]
 refine tk (i:=15) (oi:=⟨some 26,_,_,_,_,_⟩) (v:=_) rfl kx ix c12 sl ?_;try simp only [Act.put,seti,set0,setS]
 refine wpLate_one (i:=16) (o:=⟨some 27,_,_,_,_,_⟩) kx rfl (fun K hK=>?_);go_simp
 (go_at_call 123;refine (HCN.out _ _ _ _ _ _ _ (X.out.rw (i:=4) rfl) (X.out.rw (i:=5) rfl)).mono ?_;rintro e u3 ⟨rfl,hb9⟩;have X:=hid (X.out.next hb9);clear hb9)
 try go_wp2_with fail
 refine hK.out _ _ (Or.inr (fun _=>⟨X.out.c3 (i:=1) rfl,X.out.c3 (i:=2) rfl⟩)) ?_;clear hK K;try simp only [Act.put,seti,set0,setS]
 refine wpLate_one (i:=17) (o:=⟨none,_,_,_,_,_⟩) kx rfl (fun K hK=>?_);obtain ⟨x0,x1,x2,x3⟩:=X.out.c4 (i:=0) rfl;obtain ⟨y0,y1,y2,y3⟩:=X.out.f4 (i:=0) rfl;have X:=hid (X.out.set4 (i:=0) rfl (.bool b3) (.string m3) (.bool false) (.string k3));go_simp;refine hK.out _ _ (Or.inr (fun _=>⟨X.out.c3 (i:=1) rfl,X.out.c3 (i:=2) rfl⟩)) ?_;clear hK K x0 x1 x2 x3 y0 y1 y2 y3;try simp only [Act.put,seti,set0,setS]
 obtain ⟨W4,hV⟩:=wexi X.out;rw [←hV] at X ⊢;clear hV;refine wpLate_done kx ?_ _;go_wp2
 obtain ⟨p0,p1,p2,p3⟩:=X.out.c4 (i:=0) rfl;exact bodyPost_ret (v:=.agg #[.bool b3,.string m3,.bool false,.string k3]) (by simp [results,Tryz.results82,go_sem,p0,p1,p2,p3]) rfl ⟨rfl,X.out.bel⟩
theorem rcmp_b (A B:Option Addr) (n m c d X Y:Nat) (w:World) (hn:n≤1000000000) (hm:m≤1000000000) (hx:Tr w A n c X) (hy:Tr w B m d Y) :
  Calls prog 121 #[.slice A n c,.slice B m d] w (RetB w (.int .i64 (ord X Y))):=by
 refine (rcompare_any A B n m c d X Y w hn hm hx hy).mono ?_;rintro e w' ⟨rfl,nn,rfl⟩;exact ⟨rfl,below_draws (Below.refl _ _) nn⟩
theorem rcmp_eq (A B:Option Addr) (n m c d:Nat) {X Y:Nat} (w:World) (hn:n≤1000000000) (hm:m≤1000000000) (h:X=Y) (hx:Tr w A n c X) (hy:Tr w B m d Y) :
  Calls prog 121 #[.slice A n c,.slice B m d] w (RetB w (.int .i64 0)):=by
 have h1:=rcmp_b A B n m c d X Y w hn hm hx hy;rw [h,ord_eq] at h1;exact h1
theorem rcmp_lt (A B:Option Addr) (n m c d:Nat) {X Y:Nat} (w:World) (hn:n≤1000000000) (hm:m≤1000000000) (h:X<Y) (hx:Tr w A n c X) (hy:Tr w B m d Y) :
  Calls prog 121 #[.slice A n c,.slice B m d] w (RetB w (.int .i64 (-1))):=by
 have h1:=rcmp_b A B n m c d X Y w hn hm hx hy;rw [ord_lt h] at h1;exact h1
theorem isSq_no {x:Int} {b:Bool} {m:ByteArray} (hx:enc x=.agg #[.bool b,.string m]) (h:x<0∨rt x.natAbs*rt x.natAbs≠x.natAbs) (s:m.size≤30000) (w:World) :
  Calls prog 128 #[.agg #[.bool b,.string m]] w (RetB w (.tuple #[.agg #[.bool false,.string ⟨#[]⟩],.bool false])):=by
 by_cases h0:x<0
 · exact isSquare_neg hx h0 w
 · have h1:=h.resolve_left h0;obtain ⟨bp,mp,hp⟩:=enc_form (((rt x.natAbs:Nat):Int)*((rt x.natAbs:Nat):Int))
   have hs:(mag (rt x.natAbs)).size≤40000:=by
    have h2:=nd_mono (rt_self x.natAbs);have h3:nd x.natAbs≤30000:=by unfold nd;rw [←(enc_parts hx).2];exact s
    unfold nd at h2 h3;omega
   refine (isSquare_f hx om om (enc_mag _) hp hs w).mono ?_;intro e w' hw
   have hne:¬((rt x.natAbs:Nat):Int)*((rt x.natAbs:Nat):Int)=x:=fun e=>h1 (by
    rw [←Int.natCast_mul] at e;omega)
   rw [if_neg hne] at hw;exact hw
theorem ratRoot_no1 {q:Rat} {b:Bool} {m k:ByteArray} (h:Rq q b m k) (hno:q.num<0∨rt q.num.natAbs*rt q.num.natAbs≠q.num.natAbs) (s1:m.size≤30000) (w:World) :
  Calls prog 72 #[.agg #[.bool b,.string m,.bool false,.string k]] w (RetB w (.tuple #[.agg #[.bool false,.string ⟨#[]⟩,.bool false,.string ⟨#[]⟩],.bool false])):=by
 have HI:=hid (fun V=>isSq_no h.num hno om V);have X:=hid (((Sb.start w).new #[.bool b,.string m,.bool false,.string k] 25).new #[.bool false,.string ⟨#[]⟩,.bool false,.string ⟨#[]⟩] 25);have X:=hid (X.out.pick [0,1] [(w.heap.size,#[.bool b,.string m,.bool false,.string k],25),(w.heap.size+1,#[.bool false,.string ⟨#[]⟩,.bool false,.string ⟨#[]⟩],25)] [] (by simp) dc (by simp));clear h hno s1;go_enter Tryz.func72,Tryz.ntmps72;obtain ⟨a0,a1,a2,a3⟩:=X.out.c4 (i:=0) rfl;go_wp2_with fail
 refine (HI.out _).mono ?_;rintro e u1 ⟨rfl,hb9⟩;have X:=hid (X.out.next hb9);clear hb9;clear a0 a1 a2 a3;go_upto_region 2 with fail
 have X:=hid (X.out.new #[.bool false,.string ⟨#[]⟩] 23);obtain ⟨W1,hV⟩:=wexi X.out;exact k38
theorem ratRoot_no2 {q:Rat} {m k:ByteArray} (h:Rq q false m k) {N:Nat} (hN:q.num.natAbs=N*N) (hno:rt q.den*rt q.den≠q.den) (s1:(mag (N*N)).size≤30000) (s2:(mag q.den).size≤30000) (w:World) (hE:Env w) :
  Calls prog 72 #[.agg #[.bool false,.string m,.bool false,.string k]] w (RetB w (.tuple #[.agg #[.bool false,.string ⟨#[]⟩,.bool false,.string ⟨#[]⟩],.bool false])):=by
 obtain rfl:m=mag (N*N):=by rw [h.mag.2,hN]
 have HI:=hid (fun V=>isSq_yes N s1 V);have HD:=hid (fun V (hV:Env V)=>den_f h V hV);have HJ:=hid (fun V=>isSq_no (x:=(q.den:Int)) (enc_mag q.den) (.inr (by rw [Int.natAbs_natCast];exact hno)) s2 V);have HE:=hid (fun V (hb:Below w.heap.size w V)=>hE.next hb);generalize mag (N*N)=mN at *;generalize mag N=rN at *;generalize mag q.den=mD at *;have X:=hid (((Sb.start w).new #[.bool false,.string mN,.bool false,.string k] 25).new #[.bool false,.string ⟨#[]⟩,.bool false,.string ⟨#[]⟩] 25);have X:=hid (X.out.pick [0,1] [(w.heap.size,#[.bool false,.string mN,.bool false,.string k],25),(w.heap.size+1,#[.bool false,.string ⟨#[]⟩,.bool false,.string ⟨#[]⟩],25)] [] (by simp) dc (by simp));clear h hN hno s1 s2 hE;go_enter Tryz.func72,Tryz.ntmps72;obtain ⟨a0,a1,a2,a3⟩:=X.out.c4 (i:=0) rfl;go_wp2_with fail
 refine (HI.out _).mono ?_;rintro e u1 ⟨rfl,hb9⟩;have X:=hid (X.out.next hb9);clear hb9;clear a0 a1 a2 a3;go_upto_region 4 with fail
 have X:=hid (X.out.new #[.bool false,.string rN] 23);obtain ⟨W1,hV⟩:=wexi X.out;rw [←hV] at X ⊢;clear hV;obtain ⟨a0,a1,a2,a3⟩:=X.out.c4 (i:=0) rfl;go_wp2_with fail
 refine (HD.out _ (HE.out _ X.out.bel)).mono ?_;rintro e u2 ⟨rfl,hb9⟩;have X:=hid (X.out.next hb9);clear hb9;clear a0 a1 a2 a3;go_wp2_with fail
 refine (HJ.out _).mono ?_;rintro e u3 ⟨rfl,hb9⟩;have X:=hid (X.out.next hb9);clear hb9;go_upto_region 5 with fail
 have X:=hid (X.out.new #[.bool false,.string ⟨#[]⟩] 23);obtain ⟨W2,hV⟩:=wexi X.out;exact k38
theorem rRoot_neg {p:Rat} {m k:ByteArray} (h:Rq p true m k) (s1:m.size≤9000) (s2:(mag p.den).size≤9000) (w:World) :
  Calls prog 68 #[.agg #[.bool true,.string m,.bool false,.string k]] w (RetB w (.tuple #[.agg #[.bool false,.string ⟨#[]⟩,.bool false,.string ⟨#[]⟩],.bool false])):=by
 have hk:k.size≤9000:=by
  exact k35
 have HF:=hid (fun V=>rof2 h om om V);have n0:nd p.num.natAbs≤9000:=by unfold nd;rw [←h.mag.2];exact s1
 have n1':nd p.den≤9000:=s2;have hd0:=p.den_pos;generalize p.num.natAbs=NN at *;generalize p.den=DD at *;have r0:nd (rt NN)≤9000:=Nat.le_trans (nd_mono (rt_self NN)) n0;have r1:nd (rt DD)≤9000:=Nat.le_trans (nd_mono (rt_self DD)) n1';have rp:=rt_pos hd0;have q0:=nd_mul (rt NN) (rt NN);have q1:=nd_mul (rt DD) (rt DD);have HRN:=hid (fun (A:Option Addr) (n c:Nat) (V:World) (ht:Tr V A n c NN)=>rroot A n c NN V (by have:=ht.ln;omega) ht);have HRD:=hid (fun (A:Option Addr) (n c:Nat) (V:World) (ht:Tr V A n c DD)=>rroot A n c DD V (by have:=ht.ln;omega) ht);clear n0 n1' hd0 r0 r1 rp q0 q1 hk s1 s2 h;generalize rt NN=RN at *;generalize rt DD=RD at *;have X:=hid (((Sb.start w).new #[.bool true,.string m,.bool false,.string k] 25).new #[.bool false,.string ⟨#[]⟩,.bool false,.string ⟨#[]⟩] 25);have X:=hid (X.out.pick [0,1] [(w.heap.size,#[.bool true,.string m,.bool false,.string k],25),(w.heap.size+1,#[.bool false,.string ⟨#[]⟩,.bool false,.string ⟨#[]⟩],25)] [] (by simp) dc (by simp));go_enter Tryz.func68,Tryz.ntmps68;obtain ⟨a0,a1,a2,a3⟩:=X.out.c4 (i:=0) rfl;go_wp2_with fail
 refine (HF.out _).mono ?_;rintro e u1 ⟨A1,n1,c1,B1,n2,c2,rfl,ht9,hu9,hb9,hf9,hg9⟩;have X:=hid (X.out.row2 hb9 ht9 hu9 hf9 hg9);clear hb9 ht9 hu9 hf9 hg9 a0 a1 a2 a3;go_upto_region 2 with fail
 have X:=hid (X.out.new #[.bool true,.slice A1 n1 c1,.slice B1 n2 c2] 110);obtain ⟨gF,hgF⟩:∃ g,g=u1.heap.size:=⟨_,rfl⟩
 rw [←hgF] at X ⊢;obtain ⟨W1,hV⟩:=wexi X.out;rw [←hV] at X ⊢;clear hV;clear hgF;go_cut [5,6] (fun s5 s6 wx=>∃ A5 n5 c5 A6 n6 c6,s5=.slice A5 n5 c5∧s6=.slice A6 n6 c6∧Tr wx A5 n5 c5 RN∧Tr wx A6 n6 c6 RD∧Sb w [(w.heap.size,#[.bool true,.string m,.bool false,.string k],25),(w.heap.size+1,#[.bool false,.string ⟨#[]⟩,.bool false,.string ⟨#[]⟩],25),(gF,#[.bool true,.slice A1 n1 c1,.slice B1 n2 c2],110)] [(A1,n1,c1,NN),(B1,n2,c2,DD)] wx)
 case first =>
  refine wp_region_late (S:=fun w'=>(w'.cell? ⟨gF,0,none⟩=some (.bool true)∧w'.cell? ⟨gF,1,none⟩=some (.slice A1 n1 c1)∧w'.cell? ⟨gF,2,none⟩=some (.slice B1 n2 c2))) (L:=[]) kx ?_;exact YtpnokfgplnmjpaaGreatDoor.k2
 obtain ⟨A5,n5,c5,A6,n6,c6,rfl,rfl,hT5,hT6,hX⟩:=hcut;have X:=hid hX;have TG5:=hid hT5;have TG6:=hid hT6;clear hX hT5 hT6;go_upto_region 3 with fail
 refine wp_region_late (S:=fun w'=>(w'.cell? ⟨gF,0,none⟩=some (.bool true)∧w'.cell? ⟨gF,1,none⟩=some (.slice A1 n1 c1)∧w'.cell? ⟨gF,2,none⟩=some (.slice B1 n2 c2))) (L:=[]) kx ?_;have X:=hid X.out.drew;have TG5:=hid TG5.out.drew;have TG6:=hid TG6.out.drew;obtain ⟨V0,hV⟩:=wexi X.out;rw [←hV] at X TG5 TG6 ⊢;clear hV;refine tk (i:=0) (oi:=⟨some 15,_,_,_,_,_⟩) (v:=_) rfl kx ix (X.out.c3 (i:=2) rfl) sl ?_;try simp only [Act.put,seti,set0,setS]
 refine tk (i:=1) (oi:=⟨some 16,_,_,_,_,_⟩) (v:=_) rfl kx ix (X.out.c3 (i:=2) rfl) sl ?_;try simp only [Act.put,seti,set0,setS]
 refine tk (i:=2) (oi:=⟨some 17,_,_,_,_,_⟩) (v:=_) rfl kx ix (X.out.c3 (i:=2) rfl) sl ?_;try simp only [Act.put,seti,set0,setS]
 refine tk (i:=3) (oi:=⟨some 18,_,_,_,_,_⟩) (v:=undef) rfl kx ix (X.out.c3 (i:=2) rfl) (Or.inr ⟨by rfl,rfl⟩) ?_;try simp only [Act.put,seti,set0,setS]
 refine tk (i:=4) (oi:=⟨some 19,_,_,_,_,_⟩) (v:=undef) rfl kx ix (X.out.c3 (i:=2) rfl) (Or.inr ⟨by rfl,rfl⟩) ?_;try simp only [Act.put,seti,set0,setS]
 refine tk (i:=5) (oi:=⟨some 20,_,_,_,_,_⟩) (v:=undef) rfl kx ix (X.out.c3 (i:=2) rfl) (Or.inr ⟨by rfl,rfl⟩) ?_;try simp only [Act.put,seti,set0,setS]
 refine tk (i:=6) (oi:=⟨some 21,_,_,_,_,_⟩) (v:=undef) rfl kx ix (X.out.c3 (i:=2) rfl) (Or.inr ⟨by rfl,rfl⟩) ?_;try simp only [Act.put,seti,set0,setS]
 refine tk (i:=7) (oi:=⟨some 22,_,_,_,_,_⟩) (v:=undef) rfl kx ix (X.out.c3 (i:=2) rfl) (Or.inr ⟨by rfl,rfl⟩) ?_;try simp only [Act.put,seti,set0,setS]
 refine tk (i:=8) (oi:=⟨some 23,_,_,_,_,_⟩) (v:=undef) rfl kx ix (X.out.c3 (i:=2) rfl) (Or.inr ⟨by rfl,rfl⟩) ?_;try simp only [Act.put,seti,set0,setS]
 refine tk (i:=9) (oi:=⟨some 24,_,_,_,_,_⟩) (v:=undef) rfl kx ix (X.out.c3 (i:=2) rfl) (Or.inr ⟨by rfl,rfl⟩) ?_;exact k10
theorem rRoot_no1 {p:Rat} {m k:ByteArray} (h:Rq p false m k) (h1:rt p.num.natAbs*rt p.num.natAbs≠p.num.natAbs) (s1:m.size≤9000) (s2:(mag p.den).size≤9000) (w:World) :
  Calls prog 68 #[.agg #[.bool false,.string m,.bool false,.string k]] w (RetB w (.tuple #[.agg #[.bool false,.string ⟨#[]⟩,.bool false,.string ⟨#[]⟩],.bool false])):=by
 have hk:k.size≤9000:=by
  exact k35
 have HF:=hid (fun V=>rof2 h om om V);have n0:nd p.num.natAbs≤9000:=by unfold nd;rw [←h.mag.2];exact s1
 have n1':nd p.den≤9000:=s2;have hd0:=p.den_pos;generalize p.num.natAbs=NN at *;generalize p.den=DD at *;have r0:nd (rt NN)≤9000:=Nat.le_trans (nd_mono (rt_self NN)) n0;have r1:nd (rt DD)≤9000:=Nat.le_trans (nd_mono (rt_self DD)) n1';have rp:=rt_pos hd0;have q0:=nd_mul (rt NN) (rt NN);have q1:=nd_mul (rt DD) (rt DD);have HRN:=hid (fun (A:Option Addr) (n c:Nat) (V:World) (ht:Tr V A n c NN)=>rroot A n c NN V (by have:=ht.ln;omega) ht);have HRD:=hid (fun (A:Option Addr) (n c:Nat) (V:World) (ht:Tr V A n c DD)=>rroot A n c DD V (by have:=ht.ln;omega) ht);have HTN:=hid (fun (A:Option Addr) (n c:Nat) (V:World) (ht:Tr V A n c (rt NN))=>rtimes A A n n c c (rt NN) (rt NN) V (by have:=ht.ln;omega) (by have:=ht.ln;omega) ht.dg ht.dg);have HCN:=hid (fun (A B:Option Addr) (n m c d:Nat) (V:World) (ht:Tr V A n c (rt NN*rt NN)) (hu:Tr V B m d NN)=>rcmp_lt A B n m c d V (by have:=ht.ln;omega) (by have:=hu.ln;omega) (Nat.lt_of_le_of_ne (rt_spec NN).1 h1) ht hu);clear n0 n1' hd0 r0 r1 rp q0 q1 hk s1 s2 h h1;generalize rt NN=RN at *;generalize rt DD=RD at *;have X:=hid (((Sb.start w).new #[.bool false,.string m,.bool false,.string k] 25).new #[.bool false,.string ⟨#[]⟩,.bool false,.string ⟨#[]⟩] 25);have X:=hid (X.out.pick [0,1] [(w.heap.size,#[.bool false,.string m,.bool false,.string k],25),(w.heap.size+1,#[.bool false,.string ⟨#[]⟩,.bool false,.string ⟨#[]⟩],25)] [] (by simp) dc (by simp));go_enter Tryz.func68,Tryz.ntmps68;obtain ⟨a0,a1,a2,a3⟩:=X.out.c4 (i:=0) rfl;go_wp2_with fail
 refine (HF.out _).mono ?_;rintro e u1 ⟨A1,n1,c1,B1,n2,c2,rfl,ht9,hu9,hb9,hf9,hg9⟩;have X:=hid (X.out.row2 hb9 ht9 hu9 hf9 hg9);clear hb9 ht9 hu9 hf9 hg9 a0 a1 a2 a3;go_upto_region 2 with fail
 have X:=hid (X.out.new #[.bool false,.slice A1 n1 c1,.slice B1 n2 c2] 110);obtain ⟨gF,hgF⟩:∃ g,g=u1.heap.size:=⟨_,rfl⟩
 rw [←hgF] at X ⊢;obtain ⟨W1,hV⟩:=wexi X.out;rw [←hV] at X ⊢;clear hV;clear hgF;go_cut [5,6] (fun s5 s6 wx=>∃ A5 n5 c5 A6 n6 c6,s5=.slice A5 n5 c5∧s6=.slice A6 n6 c6∧Tr wx A5 n5 c5 RN∧Tr wx A6 n6 c6 RD∧Sb w [(w.heap.size,#[.bool false,.string m,.bool false,.string k],25),(w.heap.size+1,#[.bool false,.string ⟨#[]⟩,.bool false,.string ⟨#[]⟩],25),(gF,#[.bool false,.slice A1 n1 c1,.slice B1 n2 c2],110)] [(A1,n1,c1,NN),(B1,n2,c2,DD)] wx)
 case first =>
  refine wp_region_late (S:=fun w'=>(w'.cell? ⟨gF,0,none⟩=some (.bool false)∧w'.cell? ⟨gF,1,none⟩=some (.slice A1 n1 c1)∧w'.cell? ⟨gF,2,none⟩=some (.slice B1 n2 c2))) (L:=[]) kx ?_;exact YtpnokfgplnmjpaaGreatDoor.k2
 obtain ⟨A5,n5,c5,A6,n6,c6,rfl,rfl,hT5,hT6,hX⟩:=hcut;have X:=hid hX;have TG5:=hid hT5;have TG6:=hid hT6;clear hX hT5 hT6;go_upto_region 3 with fail
 refine wp_region_late (S:=fun w'=>(w'.cell? ⟨gF,0,none⟩=some (.bool false)∧w'.cell? ⟨gF,1,none⟩=some (.slice A1 n1 c1)∧w'.cell? ⟨gF,2,none⟩=some (.slice B1 n2 c2))) (L:=[]) kx ?_;have X:=hid X.out.drew;have TG5:=hid TG5.out.drew;have TG6:=hid TG6.out.drew;obtain ⟨V0,hV⟩:=wexi X.out;rw [←hV] at X TG5 TG6 ⊢;clear hV;refine tk (i:=0) (oi:=⟨some 15,_,_,_,_,_⟩) (v:=_) rfl kx ix (X.out.c3 (i:=2) rfl) sl ?_;try simp only [Act.put,seti,set0,setS]
 refine tk (i:=1) (oi:=⟨some 16,_,_,_,_,_⟩) (v:=_) rfl kx ix (X.out.c3 (i:=2) rfl) sl ?_;try simp only [Act.put,seti,set0,setS]
 refine tk (i:=2) (oi:=⟨some 17,_,_,_,_,_⟩) (v:=_) rfl kx ix (X.out.c3 (i:=2) rfl) sl ?_;try simp only [Act.put,seti,set0,setS]
 refine tk (i:=3) (oi:=⟨some 18,_,_,_,_,_⟩) (v:=_) rfl kx ix (X.out.c3 (i:=2) rfl) sl ?_;try simp only [Act.put,seti,set0,setS]
 refine tk (i:=4) (oi:=⟨some 19,_,_,_,_,_⟩) (v:=_) rfl kx ix (X.out.c3 (i:=2) rfl) sl ?_;try simp only [Act.put,seti,set0,setS]
 refine tk (i:=6) (oi:=⟨some 21,_,_,_,_,_⟩) (v:=_) rfl kx ix (X.out.c3 (i:=2) rfl) sl ?_;try simp only [Act.put,seti,set0,setS]
 refine tk (i:=7) (oi:=⟨some 22,_,_,_,_,_⟩) (v:=_) rfl kx ix (X.out.c3 (i:=2) rfl) sl ?_;try simp only [Act.put,seti,set0,setS]
 refine wpLate_one (i:=5) (o:=⟨some 20,_,_,_,_,_⟩) kx rfl (fun K hK=>?_);go_simp
 (go_at_call 122;refine (HTN.out _ _ _ _ TG5.out).mono ?_;rintro e u1 ⟨A1,n1,c1,rfl,ht9,hb9,hf9⟩;have TG5:=hid (TG5.out.below hb9);have TG6:=hid (TG6.out.below hb9);have X:=hid (X.out.row hb9 ht9 hf9);clear hb9 ht9 hf9)
 try go_wp2_with fail
 refine hK.out _ _ (Or.inr (fun _=>X.out.c3 (i:=2) rfl)) ?_;clear hK K;try simp only [Act.put,seti,set0,setS]
 refine wpLate_one (i:=8) (o:=⟨some 23,_,_,_,_,_⟩) kx rfl (fun K hK=>?_);go_simp
 (go_at_call 121;refine (HCN.out _ _ _ _ _ _ _ (X.out.rw (i:=2) rfl) (X.out.rw (i:=0) rfl)).mono ?_;rintro e u2 ⟨rfl,hb9⟩;have TG5:=hid (TG5.out.below hb9);have TG6:=hid (TG6.out.below hb9);have X:=hid (X.out.next hb9);clear hb9)
 try go_wp2_with fail
 refine hK.out _ _ (Or.inr (fun _=>X.out.c3 (i:=2) rfl)) ?_;clear hK K;try simp only [Act.put,seti,set0,setS]
 refine tk (i:=9) (oi:=⟨some 24,_,_,_,_,_⟩) (v:=_) rfl kx ix (X.out.c3 (i:=2) rfl) sl ?_;exact k10
theorem rRoot_no2 {p:Rat} {m k:ByteArray} (h:Rq p false m k) (h1:rt p.num.natAbs*rt p.num.natAbs=p.num.natAbs) (h2:rt p.den*rt p.den≠p.den) (s1:m.size≤9000) (s2:(mag p.den).size≤9000) (w:World) :
  Calls prog 68 #[.agg #[.bool false,.string m,.bool false,.string k]] w (RetB w (.tuple #[.agg #[.bool false,.string ⟨#[]⟩,.bool false,.string ⟨#[]⟩],.bool false])):=by
 have hk:k.size≤9000:=by
  exact k35
 have HF:=hid (fun V=>rof2 h om om V);have n0:nd p.num.natAbs≤9000:=by unfold nd;rw [←h.mag.2];exact s1
 have n1':nd p.den≤9000:=s2;have hd0:=p.den_pos;generalize p.num.natAbs=NN at *;generalize p.den=DD at *;have r0:nd (rt NN)≤9000:=Nat.le_trans (nd_mono (rt_self NN)) n0;have r1:nd (rt DD)≤9000:=Nat.le_trans (nd_mono (rt_self DD)) n1';have rp:=rt_pos hd0;have q0:=nd_mul (rt NN) (rt NN);have q1:=nd_mul (rt DD) (rt DD);have HRN:=hid (fun (A:Option Addr) (n c:Nat) (V:World) (ht:Tr V A n c NN)=>rroot A n c NN V (by have:=ht.ln;omega) ht);have HRD:=hid (fun (A:Option Addr) (n c:Nat) (V:World) (ht:Tr V A n c DD)=>rroot A n c DD V (by have:=ht.ln;omega) ht);have HTN:=hid (fun (A:Option Addr) (n c:Nat) (V:World) (ht:Tr V A n c (rt NN))=>rtimes A A n n c c (rt NN) (rt NN) V (by have:=ht.ln;omega) (by have:=ht.ln;omega) ht.dg ht.dg);have HCN:=hid (fun (A B:Option Addr) (n m c d:Nat) (V:World) (ht:Tr V A n c (rt NN*rt NN)) (hu:Tr V B m d NN)=>rcmp_eq A B n m c d V (by have:=ht.ln;omega) (by have:=hu.ln;omega) h1 ht hu);have HTD:=hid (fun (A:Option Addr) (n c:Nat) (V:World) (ht:Tr V A n c (rt DD))=>rtimes A A n n c c (rt DD) (rt DD) V (by have:=ht.ln;omega) (by have:=ht.ln;omega) ht.dg ht.dg);have HCD:=hid (fun (A B:Option Addr) (n m c d:Nat) (V:World) (ht:Tr V A n c (rt DD*rt DD)) (hu:Tr V B m d DD)=>rcmp_lt A B n m c d V (by have:=ht.ln;omega) (by have:=hu.ln;omega) (Nat.lt_of_le_of_ne (rt_spec DD).1 h2) ht hu);clear n0 n1' hd0 r0 r1 rp q0 q1 hk s1 s2 h h1 h2;generalize rt NN=RN at *;generalize rt DD=RD at *;have X:=hid (((Sb.start w).new #[.bool false,.string m,.bool false,.string k] 25).new #[.bool false,.string ⟨#[]⟩,.bool false,.string ⟨#[]⟩] 25);have X:=hid (X.out.pick [0,1] [(w.heap.size,#[.bool false,.string m,.bool false,.string k],25),(w.heap.size+1,#[.bool false,.string ⟨#[]⟩,.bool false,.string ⟨#[]⟩],25)] [] (by simp) dc (by simp));go_enter Tryz.func68,Tryz.ntmps68;obtain ⟨a0,a1,a2,a3⟩:=X.out.c4 (i:=0) rfl;go_wp2_with fail
 refine (HF.out _).mono ?_;rintro e u1 ⟨A1,n1,c1,B1,n2,c2,rfl,ht9,hu9,hb9,hf9,hg9⟩;have X:=hid (X.out.row2 hb9 ht9 hu9 hf9 hg9);clear hb9 ht9 hu9 hf9 hg9 a0 a1 a2 a3;go_upto_region 2 with fail
 have X:=hid (X.out.new #[.bool false,.slice A1 n1 c1,.slice B1 n2 c2] 110);obtain ⟨gF,hgF⟩:∃ g,g=u1.heap.size:=⟨_,rfl⟩
 rw [←hgF] at X ⊢;obtain ⟨W1,hV⟩:=wexi X.out;rw [←hV] at X ⊢;clear hV;clear hgF;go_cut [5,6] (fun s5 s6 wx=>∃ A5 n5 c5 A6 n6 c6,s5=.slice A5 n5 c5∧s6=.slice A6 n6 c6∧Tr wx A5 n5 c5 RN∧Tr wx A6 n6 c6 RD∧Sb w [(w.heap.size,#[.bool false,.string m,.bool false,.string k],25),(w.heap.size+1,#[.bool false,.string ⟨#[]⟩,.bool false,.string ⟨#[]⟩],25),(gF,#[.bool false,.slice A1 n1 c1,.slice B1 n2 c2],110)] [(A1,n1,c1,NN),(B1,n2,c2,DD)] wx)
 case first =>
  refine wp_region_late (S:=fun w'=>(w'.cell? ⟨gF,0,none⟩=some (.bool false)∧w'.cell? ⟨gF,1,none⟩=some (.slice A1 n1 c1)∧w'.cell? ⟨gF,2,none⟩=some (.slice B1 n2 c2))) (L:=[]) kx ?_;exact YtpnokfgplnmjpaaGreatDoor.k2
 obtain ⟨A5,n5,c5,A6,n6,c6,rfl,rfl,hT5,hT6,hX⟩:=hcut;have X:=hid hX;have TG5:=hid hT5;have TG6:=hid hT6;clear hX hT5 hT6;go_upto_region 3 with fail
 refine wp_region_late (S:=fun w'=>(w'.cell? ⟨gF,0,none⟩=some (.bool false)∧w'.cell? ⟨gF,1,none⟩=some (.slice A1 n1 c1)∧w'.cell? ⟨gF,2,none⟩=some (.slice B1 n2 c2))) (L:=[]) kx ?_;have X:=hid X.out.drew;have TG5:=hid TG5.out.drew;have TG6:=hid TG6.out.drew;obtain ⟨V0,hV⟩:=wexi X.out;rw [←hV] at X TG5 TG6 ⊢;clear hV;refine tk (i:=0) (oi:=⟨some 15,_,_,_,_,_⟩) (v:=_) rfl kx ix (X.out.c3 (i:=2) rfl) sl ?_;try simp only [Act.put,seti,set0,setS]
 refine tk (i:=1) (oi:=⟨some 16,_,_,_,_,_⟩) (v:=_) rfl kx ix (X.out.c3 (i:=2) rfl) sl ?_;try simp only [Act.put,seti,set0,setS]
 refine tk (i:=2) (oi:=⟨some 17,_,_,_,_,_⟩) (v:=_) rfl kx ix (X.out.c3 (i:=2) rfl) sl ?_;try simp only [Act.put,seti,set0,setS]
 refine tk (i:=3) (oi:=⟨some 18,_,_,_,_,_⟩) (v:=_) rfl kx ix (X.out.c3 (i:=2) rfl) sl ?_;try simp only [Act.put,seti,set0,setS]
 refine tk (i:=4) (oi:=⟨some 19,_,_,_,_,_⟩) (v:=_) rfl kx ix (X.out.c3 (i:=2) rfl) sl ?_;try simp only [Act.put,seti,set0,setS]
 refine tk (i:=6) (oi:=⟨some 21,_,_,_,_,_⟩) (v:=_) rfl kx ix (X.out.c3 (i:=2) rfl) sl ?_;try simp only [Act.put,seti,set0,setS]
 refine tk (i:=7) (oi:=⟨some 22,_,_,_,_,_⟩) (v:=_) rfl kx ix (X.out.c3 (i:=2) rfl) sl ?_;try simp only [Act.put,seti,set0,setS]
 refine wpLate_one (i:=5) (o:=⟨some 20,_,_,_,_,_⟩) kx rfl (fun K hK=>?_);go_simp
 (go_at_call 122;refine (HTN.out _ _ _ _ TG5.out).mono ?_;rintro e u1 ⟨A1,n1,c1,rfl,ht9,hb9,hf9⟩;have TG5:=hid (TG5.out.below hb9);have TG6:=hid (TG6.out.below hb9);have X:=hid (X.out.row hb9 ht9 hf9);clear hb9 ht9 hf9)
 try go_wp2_with fail
 refine hK.out _ _ (Or.inr (fun _=>X.out.c3 (i:=2) rfl)) ?_;clear hK K;try simp only [Act.put,seti,set0,setS]
 refine wpLate_one (i:=8) (o:=⟨some 23,_,_,_,_,_⟩) kx rfl (fun K hK=>?_);go_simp
 (go_at_call 121;refine (HCN.out _ _ _ _ _ _ _ (X.out.rw (i:=2) rfl) (X.out.rw (i:=0) rfl)).mono ?_;rintro e u2 ⟨rfl,hb9⟩;have TG5:=hid (TG5.out.below hb9);have TG6:=hid (TG6.out.below hb9);have X:=hid (X.out.next hb9);clear hb9)
 try go_wp2_with fail
 refine hK.out _ _ (Or.inr (fun _=>X.out.c3 (i:=2) rfl)) ?_;clear hK K;try simp only [Act.put,seti,set0,setS]
 refine tk (i:=9) (oi:=⟨some 24,_,_,_,_,_⟩) (v:=_) rfl kx ix (X.out.c3 (i:=2) rfl) sl ?_;try simp only [Act.put,seti,set0,setS]
 refine tk (i:=10) (oi:=⟨some 25,_,_,_,_,_⟩) (v:=_) rfl kx ix (X.out.c3 (i:=2) rfl) sl ?_;try simp only [Act.put,seti,set0,setS]
 refine tk (i:=11) (oi:=⟨some 26,_,_,_,_,_⟩) (v:=_) rfl kx ix (X.out.c3 (i:=2) rfl) sl ?_;try simp only [Act.put,seti,set0,setS]
 refine tk (i:=12) (oi:=⟨some 27,_,_,_,_,_⟩) (v:=_) rfl kx ix (X.out.c3 (i:=2) rfl) sl ?_;try simp only [Act.put,seti,set0,setS]
 refine tk (i:=13) (oi:=⟨some 28,_,_,_,_,_⟩) (v:=_) rfl kx ix (X.out.c3 (i:=2) rfl) sl ?_;try simp only [Act.put,seti,set0,setS]
 refine tk (i:=15) (oi:=⟨some 30,_,_,_,_,_⟩) (v:=_) rfl kx ix (X.out.c3 (i:=2) rfl) sl ?_;try simp only [Act.put,seti,set0,setS]
 refine tk (i:=16) (oi:=⟨some 31,_,_,_,_,_⟩) (v:=_) rfl kx ix (X.out.c3 (i:=2) rfl) sl ?_;try simp only [Act.put,seti,set0,setS]
 refine wpLate_one (i:=14) (o:=⟨some 29,_,_,_,_,_⟩) kx rfl (fun K hK=>?_);go_simp
 (go_at_call 122;refine (HTD.out _ _ _ _ TG6.out).mono ?_;rintro e u3 ⟨A3,n3,c3,rfl,ht9,hb9,hf9⟩;have TG5:=hid (TG5.out.below hb9);have TG6:=hid (TG6.out.below hb9);have X:=hid (X.out.row hb9 ht9 hf9);clear hb9 ht9 hf9)
 try go_wp2_with fail
 refine hK.out _ _ (Or.inr (fun _=>X.out.c3 (i:=2) rfl)) ?_;clear hK K;try simp only [Act.put,seti,set0,setS]
 refine wpLate_one (i:=17) (o:=⟨some 32,_,_,_,_,_⟩) kx rfl (fun K hK=>?_);go_simp
 (go_at_call 121;refine (HCD.out _ _ _ _ _ _ _ (X.out.rw (i:=3) rfl) (X.out.rw (i:=1) rfl)).mono ?_;rintro e u4 ⟨rfl,hb9⟩;have TG5:=hid (TG5.out.below hb9);have TG6:=hid (TG6.out.below hb9);have X:=hid (X.out.next hb9);clear hb9)
 try go_wp2_with fail
 refine hK.out _ _ (Or.inr (fun _=>X.out.c3 (i:=2) rfl)) ?_;clear hK K;try simp only [Act.put,seti,set0,setS]
 refine tk (i:=18) (oi:=⟨some 33,_,_,_,_,_⟩) (v:=_) rfl kx ix (X.out.c3 (i:=2) rfl) sl ?_;try simp only [Act.put,seti,set0,setS]
 refine tk (i:=19) (oi:=⟨some 34,_,_,_,_,_⟩) (v:=_) rfl kx ix (X.out.c3 (i:=2) rfl) sl ?_;try simp only [Act.put,seti,set0,setS]
 refine wpLate_done kx ?_ _;obtain ⟨x0,x1,x2,x3⟩:=X.out.c4 (i:=1) rfl;obtain ⟨y0,y1,y2,y3⟩:=X.out.f4 (i:=1) rfl;go_wp2
 have X:=hid (X.out.set4 (i:=1) rfl (.bool false) (.string ⟨#[]⟩) (.bool false) (.string ⟨#[]⟩));obtain ⟨p0,p1,p2,p3⟩:=X.out.c4 (i:=1) rfl;exact bodyPost_ret (v:=.tuple #[.agg #[.bool false,.string ⟨#[]⟩,.bool false,.string ⟨#[]⟩],.bool false]) (by simp [results,Tryz.results68,go_sem,p0,p1,p2,p3]) rfl ⟨rfl,X.out.bel⟩
theorem rRoot_yes {p:Rat} {m k:ByteArray} (h:Rq p false m k) (h1:rt p.num.natAbs*rt p.num.natAbs=p.num.natAbs) (h2:rt p.den*rt p.den=p.den) {mR kR:ByteArray} (hr:Rq (mkRat (sgn false (rt p.num.natAbs)) (rt p.den)) false mR kR) (s1:m.size≤9000) (s2:(mag p.den).size≤9000) (w:World) :
  Calls prog 68 #[.agg #[.bool false,.string m,.bool false,.string k]] w (RetB w (.tuple #[.agg #[.bool false,.string mR,.bool false,.string kR],.bool true])):=by
 have hk:k.size≤9000:=by
  exact k35
 have HF:=hid (fun V=>rof2 h om om V);have n0:nd p.num.natAbs≤9000:=by unfold nd;rw [←h.mag.2];exact s1
 have n1':nd p.den≤9000:=s2;have hd0:=p.den_pos;generalize p.num.natAbs=NN at *;generalize p.den=DD at *;have r0:nd (rt NN)≤9000:=Nat.le_trans (nd_mono (rt_self NN)) n0;have r1:nd (rt DD)≤9000:=Nat.le_trans (nd_mono (rt_self DD)) n1';have rp:=rt_pos hd0;have q0:=nd_mul (rt NN) (rt NN);have q1:=nd_mul (rt DD) (rt DD);have HRN:=hid (fun (A:Option Addr) (n c:Nat) (V:World) (ht:Tr V A n c NN)=>rroot A n c NN V (by have:=ht.ln;omega) ht);have HRD:=hid (fun (A:Option Addr) (n c:Nat) (V:World) (ht:Tr V A n c DD)=>rroot A n c DD V (by have:=ht.ln;omega) ht);have HTN:=hid (fun (A:Option Addr) (n c:Nat) (V:World) (ht:Tr V A n c (rt NN))=>rtimes A A n n c c (rt NN) (rt NN) V (by have:=ht.ln;omega) (by have:=ht.ln;omega) ht.dg ht.dg);have HCN:=hid (fun (A B:Option Addr) (n m c d:Nat) (V:World) (ht:Tr V A n c (rt NN*rt NN)) (hu:Tr V B m d NN)=>rcmp_eq A B n m c d V (by have:=ht.ln;omega) (by have:=hu.ln;omega) h1 ht hu);have HTD:=hid (fun (A:Option Addr) (n c:Nat) (V:World) (ht:Tr V A n c (rt DD))=>rtimes A A n n c c (rt DD) (rt DD) V (by have:=ht.ln;omega) (by have:=ht.ln;omega) ht.dg ht.dg);have HCD:=hid (fun (A B:Option Addr) (n m c d:Nat) (V:World) (ht:Tr V A n c (rt DD*rt DD)) (hu:Tr V B m d DD)=>rcmp_eq A B n m c d V (by have:=ht.ln;omega) (by have:=hu.ln;omega) h2 ht hu)
 have hca:∀ (A B:Option Addr) (n m c d:Nat) (V:World),Tr V A n c (rt NN)→Tr V B m d (rt DD)→Calls prog 123 #[.agg #[.bool false,.slice A n c,.slice B m d]] V (RetB V (.agg #[.bool false,.string mR,.bool false,.string kR])):=by
  intro A B n m c d V hA hB;refine (rcanonical false A B n m c d _ _ V (by have:=hA.ln;omega) (by have:=hB.ln;omega) hA hB rp).mono ?_;rintro e w3 ⟨b4,m4,k4,rfl,hq4,hb3⟩;obtain ⟨rfl,rfl,rfl⟩:=hr.inj hq4;exact ⟨rfl,hb3⟩
 have HCA:=hid hca;clear n0 n1' hd0 r0 r1 rp q0 q1 hk s1 s2 h h1 h2 hr hca;generalize rt NN=RN at *;generalize rt DD=RD at *;have X:=hid (((Sb.start w).new #[.bool false,.string m,.bool false,.string k] 25).new #[.bool false,.string ⟨#[]⟩,.bool false,.string ⟨#[]⟩] 25);have X:=hid (X.out.pick [0,1] [(w.heap.size,#[.bool false,.string m,.bool false,.string k],25),(w.heap.size+1,#[.bool false,.string ⟨#[]⟩,.bool false,.string ⟨#[]⟩],25)] [] (by simp) dc (by simp));go_enter Tryz.func68,Tryz.ntmps68;obtain ⟨a0,a1,a2,a3⟩:=X.out.c4 (i:=0) rfl;go_wp2_with fail
 refine (HF.out _).mono ?_;rintro e u1 ⟨A1,n1,c1,B1,n2,c2,rfl,ht9,hu9,hb9,hf9,hg9⟩;have X:=hid (X.out.row2 hb9 ht9 hu9 hf9 hg9);clear hb9 ht9 hu9 hf9 hg9 a0 a1 a2 a3;go_upto_region 2 with fail
 have X:=hid (X.out.new #[.bool false,.slice A1 n1 c1,.slice B1 n2 c2] 110);obtain ⟨gF,hgF⟩:∃ g,g=u1.heap.size:=⟨_,rfl⟩
 rw [←hgF] at X ⊢;obtain ⟨W1,hV⟩:=wexi X.out;rw [←hV] at X ⊢;clear hV;clear hgF;go_cut [5,6] (fun s5 s6 wx=>∃ A5 n5 c5 A6 n6 c6,s5=.slice A5 n5 c5∧s6=.slice A6 n6 c6∧Tr wx A5 n5 c5 RN∧Tr wx A6 n6 c6 RD∧Sb w [(w.heap.size,#[.bool false,.string m,.bool false,.string k],25),(w.heap.size+1,#[.bool false,.string ⟨#[]⟩,.bool false,.string ⟨#[]⟩],25),(gF,#[.bool false,.slice A1 n1 c1,.slice B1 n2 c2],110)] [(A1,n1,c1,NN),(B1,n2,c2,DD)] wx)
 case first =>
  refine wp_region_late (S:=fun w'=>(w'.cell? ⟨gF,0,none⟩=some (.bool false)∧w'.cell? ⟨gF,1,none⟩=some (.slice A1 n1 c1)∧w'.cell? ⟨gF,2,none⟩=some (.slice B1 n2 c2))) (L:=[]) kx ?_;exact YtpnokfgplnmjpaaGreatDoor.k2
 obtain ⟨A5,n5,c5,A6,n6,c6,rfl,rfl,hT5,hT6,hX⟩:=hcut;have X:=hid hX;have TG5:=hid hT5;have TG6:=hid hT6;clear hX hT5 hT6;go_upto_region 3 with fail
 refine wp_region_late (S:=fun w'=>(w'.cell? ⟨gF,0,none⟩=some (.bool false)∧w'.cell? ⟨gF,1,none⟩=some (.slice A1 n1 c1)∧w'.cell? ⟨gF,2,none⟩=some (.slice B1 n2 c2))) (L:=[]) kx ?_;have X:=hid X.out.drew;have TG5:=hid TG5.out.drew;have TG6:=hid TG6.out.drew;obtain ⟨V0,hV⟩:=wexi X.out;rw [←hV] at X TG5 TG6 ⊢;clear hV;refine tk (i:=0) (oi:=⟨some 15,_,_,_,_,_⟩) (v:=_) rfl kx ix (X.out.c3 (i:=2) rfl) sl ?_;try simp only [Act.put,seti,set0,setS]
 refine tk (i:=1) (oi:=⟨some 16,_,_,_,_,_⟩) (v:=_) rfl kx ix (X.out.c3 (i:=2) rfl) sl ?_;try simp only [Act.put,seti,set0,setS]
 refine tk (i:=2) (oi:=⟨some 17,_,_,_,_,_⟩) (v:=_) rfl kx ix (X.out.c3 (i:=2) rfl) sl ?_;try simp only [Act.put,seti,set0,setS]
 refine tk (i:=3) (oi:=⟨some 18,_,_,_,_,_⟩) (v:=_) rfl kx ix (X.out.c3 (i:=2) rfl) sl ?_;try simp only [Act.put,seti,set0,setS]
 refine tk (i:=4) (oi:=⟨some 19,_,_,_,_,_⟩) (v:=_) rfl kx ix (X.out.c3 (i:=2) rfl) sl ?_;try simp only [Act.put,seti,set0,setS]
 refine tk (i:=6) (oi:=⟨some 21,_,_,_,_,_⟩) (v:=_) rfl kx ix (X.out.c3 (i:=2) rfl) sl ?_;try simp only [Act.put,seti,set0,setS]
 refine tk (i:=7) (oi:=⟨some 22,_,_,_,_,_⟩) (v:=_) rfl kx ix (X.out.c3 (i:=2) rfl) sl ?_;try simp only [Act.put,seti,set0,setS]
 refine wpLate_one (i:=5) (o:=⟨some 20,_,_,_,_,_⟩) kx rfl (fun K hK=>?_);go_simp
 (go_at_call 122;refine (HTN.out _ _ _ _ TG5.out).mono ?_;rintro e u1 ⟨A1,n1,c1,rfl,ht9,hb9,hf9⟩;have TG5:=hid (TG5.out.below hb9);have TG6:=hid (TG6.out.below hb9);have X:=hid (X.out.row hb9 ht9 hf9);clear hb9 ht9 hf9)
 try go_wp2_with fail
 refine hK.out _ _ (Or.inr (fun _=>X.out.c3 (i:=2) rfl)) ?_;clear hK K;try simp only [Act.put,seti,set0,setS]
 refine wpLate_one (i:=8) (o:=⟨some 23,_,_,_,_,_⟩) kx rfl (fun K hK=>?_);go_simp
 (go_at_call 121;refine (HCN.out _ _ _ _ _ _ _ (X.out.rw (i:=2) rfl) (X.out.rw (i:=0) rfl)).mono ?_;rintro e u2 ⟨rfl,hb9⟩;have TG5:=hid (TG5.out.below hb9);have TG6:=hid (TG6.out.below hb9);have X:=hid (X.out.next hb9);clear hb9)
 try go_wp2_with fail
 refine hK.out _ _ (Or.inr (fun _=>X.out.c3 (i:=2) rfl)) ?_;clear hK K;try simp only [Act.put,seti,set0,setS]
 refine tk (i:=9) (oi:=⟨some 24,_,_,_,_,_⟩) (v:=_) rfl kx ix (X.out.c3 (i:=2) rfl) sl ?_;try simp only [Act.put,seti,set0,setS]
 refine tk (i:=10) (oi:=⟨some 25,_,_,_,_,_⟩) (v:=_) rfl kx ix (X.out.c3 (i:=2) rfl) sl ?_;try simp only [Act.put,seti,set0,setS]
 refine tk (i:=11) (oi:=⟨some 26,_,_,_,_,_⟩) (v:=_) rfl kx ix (X.out.c3 (i:=2) rfl) sl ?_;try simp only [Act.put,seti,set0,setS]
 refine tk (i:=12) (oi:=⟨some 27,_,_,_,_,_⟩) (v:=_) rfl kx ix (X.out.c3 (i:=2) rfl) sl ?_;try simp only [Act.put,seti,set0,setS]
 refine tk (i:=13) (oi:=⟨some 28,_,_,_,_,_⟩) (v:=_) rfl kx ix (X.out.c3 (i:=2) rfl) sl ?_;try simp only [Act.put,seti,set0,setS]
 refine tk (i:=15) (oi:=⟨some 30,_,_,_,_,_⟩) (v:=_) rfl kx ix (X.out.c3 (i:=2) rfl) sl ?_;try simp only [Act.put,seti,set0,setS]
 refine tk (i:=16) (oi:=⟨some 31,_,_,_,_,_⟩) (v:=_) rfl kx ix (X.out.c3 (i:=2) rfl) sl ?_;try simp only [Act.put,seti,set0,setS]
 refine wpLate_one (i:=14) (o:=⟨some 29,_,_,_,_,_⟩) kx rfl (fun K hK=>?_);go_simp
 (go_at_call 122;refine (HTD.out _ _ _ _ TG6.out).mono ?_;rintro e u3 ⟨A3,n3,c3,rfl,ht9,hb9,hf9⟩;have TG5:=hid (TG5.out.below hb9);have TG6:=hid (TG6.out.below hb9);have X:=hid (X.out.row hb9 ht9 hf9);clear hb9 ht9 hf9)
 try go_wp2_with fail
 refine hK.out _ _ (Or.inr (fun _=>X.out.c3 (i:=2) rfl)) ?_;clear hK K;try simp only [Act.put,seti,set0,setS]
 refine wpLate_one (i:=17) (o:=⟨some 32,_,_,_,_,_⟩) kx rfl (fun K hK=>?_);go_simp
 (go_at_call 121;refine (HCD.out _ _ _ _ _ _ _ (X.out.rw (i:=3) rfl) (X.out.rw (i:=1) rfl)).mono ?_;rintro e u4 ⟨rfl,hb9⟩;have TG5:=hid (TG5.out.below hb9);have TG6:=hid (TG6.out.below hb9);have X:=hid (X.out.next hb9);clear hb9)
 try go_wp2_with fail
 refine hK.out _ _ (Or.inr (fun _=>X.out.c3 (i:=2) rfl)) ?_;clear hK K;try simp only [Act.put,seti,set0,setS]
 refine tk (i:=18) (oi:=⟨some 33,_,_,_,_,_⟩) (v:=_) rfl kx ix (X.out.c3 (i:=2) rfl) sl ?_;try simp only [Act.put,seti,set0,setS]
 refine tk (i:=19) (oi:=⟨some 34,_,_,_,_,_⟩) (v:=_) rfl kx ix (X.out.c3 (i:=2) rfl) sl ?_;try simp only [Act.put,seti,set0,setS]
 refine wpLate_done kx ?_ _;go_wp2_with fail
 refine (HCA.out _ _ _ _ _ _ _ TG5.out TG6.out).mono ?_;rintro e u9 ⟨rfl,hb9⟩;have X:=hid (X.out.next hb9);clear hb9;obtain ⟨x0,x1,x2,x3⟩:=X.out.c4 (i:=1) rfl;obtain ⟨y0,y1,y2,y3⟩:=X.out.f4 (i:=1) rfl;go_wp2
 have X:=hid (X.out.set4 (i:=1) rfl (.bool false) (.string mR) (.bool false) (.string kR));obtain ⟨p0,p1,p2,p3⟩:=X.out.c4 (i:=1) rfl;exact bodyPost_ret (v:=.tuple #[.agg #[.bool false,.string mR,.bool false,.string kR],.bool true]) (by simp [results,Tryz.results68,go_sem,p0,p1,p2,p3]) rfl ⟨rfl,X.out.bel⟩
end Go.Proofs.YtpnokfgplnmjpaaGreatDoor
