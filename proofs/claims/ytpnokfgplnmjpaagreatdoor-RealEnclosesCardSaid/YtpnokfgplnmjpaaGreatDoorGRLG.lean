import Derived.Test.YtpnokfgplnmjpaaGreatDoorGRTD
import Derived.Test.YtpnokfgplnmjpaaGreatDoorGQT
import Derived.Test.YtpnokfgplnmjpaaGreatDoorGRTB
import Derived.Test.YtpnokfgplnmjpaaGreatDoorGRGB
import Derived.Test.YtpnokfgplnmjpaaGreatDoorGRHK
import Derived.Test.YtpnokfgplnmjpaaGreatDoorGQW
import Derived.Test.YtpnokfgplnmjpaaGreatDoorGRFA
import Derived.Test.YtpnokfgplnmjpaaGreatDoorGSgQ
set_option linter.unusedSimpArgs false
set_option linter.unusedVariables false

namespace Go.Proofs.YtpnokfgplnmjpaaGreatDoor
open Go.RowKit
attribute [local go_sem ↓] Go.wp_at_zero Go.wp_at_succ

set_option maxHeartbeats 16000000 in
set_option maxRecDepth 100000 in
theorem ratDiv_pos {p q r:Rat} {b1 b3:Bool} {m1 m2 m3 k1 k2 k3 k4 mq:ByteArray} (hp:Rq p b1 m1 k1) (hq:Rq q false m2 k2) (hi:Rq r false mq k4) (hr:Rq (p*r) b3 m3 k3) (hmq:mq=mag q.den) (hnum:r.num=q.num.sign*(q.den:Int)) (hden:r.den=q.num.natAbs) (h0:q.num.sign≠0) (s1:m1.size≤10000) (s2:m2.size≤10000) (s3:(mag p.den).size≤10000) (s4:(mag q.den).size≤10000) (w:World) (hE:Env w) :
  Calls Tryz.prog 136 #[.agg #[.bool b1,.string m1,.bool false,.string k1],.agg #[.bool false,.string m2,.bool false,.string k2]] w (RetB w (.tuple #[.agg #[.bool b3,.string m3,.bool false,.string k3],.int .i64 0])):=by
 have HS:=Lib.hid (fun V=>ratSign_f hq V)
 have hD:=fun V (hV:Env V)=>den_f hq V hV
 rw [←hmq] at hD
 have HD:=Lib.hid hD
 have hab:=fun V=>abs_f hq.num (enc_mag q.num.natAbs) V
 have HAB:=Lib.hid hab
 have hcp:=fun V (hV:Env V)=>coprime_f false mq q.num.natAbs V hV
 rw [←hden,←hi.den] at hcp
 rw [hden,←hq.mag.2] at hcp
 have HCP:=Lib.hid hcp
 have HM:=Lib.hid (fun V (hV:Env V)=>ratMul_f hp hi hr s1 (by rw [hmq];exact s4) s3 (by rw [hden,←hq.mag.2];exact s2) V hV)
 have HE:=Lib.hid (fun V (h:Below w.heap.size w V)=>hE.next h)
 rw [←hq.mag.2] at HAB
 generalize q.num.sign=s at *
 generalize hd:r.den=rd at *
 clear hp hq hi hr hmq hnum hden hD hab hcp s1 s2 s3 s4 hE hd
 have X:=Lib.hid ((((Sb.start w).new #[.bool b1,.string m1,.bool false,.string k1] 25).new #[.bool false,.string m2,.bool false,.string k2] 25).new #[.bool false,.string ⟨#[]⟩,.bool false,.string ⟨#[]⟩] 25)
 have X:=Lib.hid (X.out.pick [0,1,2] [(w.heap.size,#[.bool b1,.string m1,.bool false,.string k1],25),(w.heap.size+1,#[.bool false,.string m2,.bool false,.string k2],25),(w.heap.size+1+1,#[.bool false,.string ⟨#[]⟩,.bool false,.string ⟨#[]⟩],25)] [] (by simp) (by decide) (by simp))
 go_enter Tryz.func136,Tryz.ntmps136
 go_upto_region 1 with fail
 obtain ⟨a0,a1,a2,a3⟩:=X.out.c4 (i:=1) rfl
 go_wp2_with fail
 refine (HS.out _).mono ?_
 rintro e u1 ⟨rfl,hb9⟩
 have X:=Lib.hid (X.out.next hb9)
 clear hb9 a0 a1 a2 a3
 go_upto_region 3 with fail
 go_cut [6] (fun s6 wx=>∃ g,s6=.pointer (some ⟨g,0,none⟩)∧Sb w [(w.heap.size,#[.bool b1,.string m1,.bool false,.string k1],25),(w.heap.size+1,#[.bool false,.string m2,.bool false,.string k2],25),(w.heap.size+1+1,#[.bool false,.string ⟨#[]⟩,.bool false,.string ⟨#[]⟩],25),(g,#[.bool false,.string mq],23)] [] wx)
 case first =>
  obtain ⟨a0,a1,a2,a3⟩:=X.out.c4 (i:=1) rfl
  go_wp2_with fail
  refine (HD.out _ (HE.out _ X.out.bel)).mono ?_
  rintro e u2 ⟨rfl,hb9⟩
  have X:=Lib.hid (X.out.next hb9)
  clear hb9 a0 a1 a2 a3
  have X:=Lib.hid (X.out.new #[.bool false,.string mq] 23)
  go_wp2_with fail
  go_meet
  exact ⟨_,rfl,X.out⟩
 obtain ⟨g,rfl,hX⟩:=hcut
 have X:=Lib.hid hX
 clear hX
 obtain ⟨a0,a1,a2,a3⟩:=X.out.c4 (i:=1) rfl
 obtain ⟨c0,c1⟩:=X.out.c2 (i:=3) rfl
 go_upto_region 6 with fail
 clear a0 a1 a2 a3 c0 c1
 refine wp_region_late (S:=fun w'=>(w'.cell? ⟨w.heap.size,0,none⟩=some (.bool b1)∧w'.cell? ⟨w.heap.size,1,none⟩=some (.string m1)∧w'.cell? ⟨w.heap.size,2,none⟩=some (.bool false)∧w'.cell? ⟨w.heap.size,3,none⟩=some (.string k1))∧(w'.cell? ⟨g,0,none⟩=some (.bool false)∧w'.cell? ⟨g,1,none⟩=some (.string mq))∧(w'.cell? ⟨w.heap.size+1,0,none⟩=some (.bool false)∧w'.cell? ⟨w.heap.size+1,1,none⟩=some (.string m2)∧w'.cell? ⟨w.heap.size+1,2,none⟩=some (.bool false)∧w'.cell? ⟨w.heap.size+1,3,none⟩=some (.string k2))) (L:=[]) (by kernel_rfl) ?_
 have X:=Lib.hid X.out.drew
 obtain ⟨V0,hV⟩:=wexi X.out
 rw [←hV] at X ⊢
 clear hV
 refine tk (i:=0) (oi:=⟨some 18,_,_,_,_,_⟩) (v:=_) rfl (by kernel_rfl) (fun _ _ _ h=>h) (⟨X.out.c4 (i:=0) rfl,X.out.c2 (i:=3) rfl,X.out.c4 (i:=1) rfl⟩) (Or.inl ⟨by rfl,by intro w hSw;(try dsimp only at hSw);(first | (go_simp;done) | (go_simp;with_reducible rfl))⟩) ?_
 try simp only [Act.put,seti,set0,setS]
 refine tk (i:=1) (oi:=⟨some 19,_,_,_,_,_⟩) (v:=_) rfl (by kernel_rfl) (fun _ _ _ h=>h) (⟨X.out.c4 (i:=0) rfl,X.out.c2 (i:=3) rfl,X.out.c4 (i:=1) rfl⟩) (Or.inl ⟨by rfl,by intro w hSw;(try dsimp only at hSw);(first | (go_simp;done) | (go_simp;with_reducible rfl))⟩) ?_
 try simp only [Act.put,seti,set0,setS]
 refine tk (i:=2) (oi:=⟨some 20,_,_,_,_,_⟩) (v:=_) rfl (by kernel_rfl) (fun _ _ _ h=>h) (⟨X.out.c4 (i:=0) rfl,X.out.c2 (i:=3) rfl,X.out.c4 (i:=1) rfl⟩) (Or.inl ⟨by rfl,by intro w hSw;(try dsimp only at hSw);(first | (go_simp;done) | (go_simp;with_reducible rfl))⟩) ?_
 try simp only [Act.put,seti,set0,setS]
 refine tk (i:=3) (oi:=⟨some 21,_,_,_,_,_⟩) (v:=_) rfl (by kernel_rfl) (fun _ _ _ h=>h) (⟨X.out.c4 (i:=0) rfl,X.out.c2 (i:=3) rfl,X.out.c4 (i:=1) rfl⟩) (Or.inl ⟨by rfl,by intro w hSw;(try dsimp only at hSw);(first | (go_simp;done) | (go_simp;with_reducible rfl))⟩) ?_
 try simp only [Act.put,seti,set0,setS]
 refine wpLate_one (i:=4) (o:=⟨some 22,_,_,_,_,_⟩) (by kernel_rfl) rfl (fun K hK=>?_)
 go_simp
 (go_at_call 173;refine (HAB.out _).mono ?_;rintro e u1 ⟨rfl,hb9⟩;have X:=Lib.hid (X.out.next hb9);clear hb9)
 try go_wp2_with fail
 refine hK.out _ _ (Or.inr (fun _=>⟨X.out.c4 (i:=0) rfl,X.out.c2 (i:=3) rfl,X.out.c4 (i:=1) rfl⟩)) ?_
 clear hK K
 try simp only [Act.put,seti,set0,setS]
 refine wpLate_one (i:=5) (o:=⟨some 23,_,_,_,_,_⟩) (by kernel_rfl) rfl (fun K hK=>?_)
 go_simp
 (go_at_call 129;refine (HCP.out _ (HE.out _ X.out.bel)).mono ?_;rintro e u2 ⟨rfl,hb9⟩;have X:=Lib.hid (X.out.next hb9);clear hb9)
 try go_wp2_with fail
 refine hK.out _ _ (Or.inr (fun _=>⟨X.out.c4 (i:=0) rfl,X.out.c2 (i:=3) rfl,X.out.c4 (i:=1) rfl⟩)) ?_
 clear hK K
 try simp only [Act.put,seti,set0,setS]
 refine wpLate_one (i:=6) (o:=⟨some 24,_,_,_,_,_⟩) (by kernel_rfl) rfl (fun K hK=>?_)
 go_simp
 (go_at_call 75;refine (HM.out _ (HE.out _ X.out.bel)).mono ?_;rintro e u3 ⟨rfl,hb9⟩;have X:=Lib.hid (X.out.next hb9);clear hb9)
 try go_wp2_with fail
 refine hK.out _ _ (Or.inr (fun _=>⟨X.out.c4 (i:=0) rfl,X.out.c2 (i:=3) rfl,X.out.c4 (i:=1) rfl⟩)) ?_
 clear hK K
 try simp only [Act.put,seti,set0,setS]
 refine wpLate_one (i:=7) (o:=⟨none,_,_,_,_,_⟩) (by kernel_rfl) rfl (fun K hK=>?_)
 obtain ⟨x0,x1,x2,x3⟩:=X.out.c4 (i:=2) rfl
 obtain ⟨y0,y1,y2,y3⟩:=X.out.f4 (i:=2) rfl
 have X:=Lib.hid (X.out.set4 (i:=2) rfl (.bool b3) (.string m3) (.bool false) (.string k3))
 go_simp
 refine hK.out _ _ (Or.inr (fun _=>⟨X.out.c4 (i:=0) rfl,X.out.c2 (i:=3) rfl,X.out.c4 (i:=1) rfl⟩)) ?_
 clear hK K x0 x1 x2 x3 y0 y1 y2 y3
 try simp only [Act.put,seti,set0,setS]
 obtain ⟨W4,hV⟩:=wexi X.out
 rw [←hV] at X ⊢
 clear hV
 refine tk (i:=8) (oi:=⟨some 5,_,_,_,_,_⟩) (v:=_) rfl (by kernel_rfl) (fun _ _ _ h=>h) (⟨X.out.c4 (i:=0) rfl,X.out.c2 (i:=3) rfl,X.out.c4 (i:=1) rfl⟩) (Or.inl ⟨by rfl,by intro w hSw;(try dsimp only at hSw);(first | (go_simp;done) | (go_simp;with_reducible rfl))⟩) ?_
 try simp only [Act.put,seti,set0,setS]
 refine wpLate_done (by kernel_rfl) ?_ _
 go_wp2
 obtain ⟨p0,p1,p2,p3⟩:=X.out.c4 (i:=2) rfl
 exact bodyPost_ret (v:=.tuple #[.agg #[.bool b3,.string m3,.bool false,.string k3],.int .i64 0]) (by simp [results,Tryz.results136,go_sem,p0,p1,p2,p3]) rfl ⟨rfl,X.out.bel⟩

set_option maxHeartbeats 16000000 in
set_option maxRecDepth 100000 in
theorem ratDiv_neg {p q r:Rat} {b1 b3:Bool} {m1 m2 m3 k1 k2 k3 k4 mq:ByteArray} (hp:Rq p b1 m1 k1) (hq:Rq q true m2 k2) (hi:Rq r true mq k4) (hr:Rq (p*r) b3 m3 k3) (hmq:mq=mag q.den) (hnum:r.num=q.num.sign*(q.den:Int)) (hden:r.den=q.num.natAbs) (h0:q.num.sign≠0) (s1:m1.size≤10000) (s2:m2.size≤10000) (s3:(mag p.den).size≤10000) (s4:(mag q.den).size≤10000) (w:World) (hE:Env w) :
  Calls Tryz.prog 136 #[.agg #[.bool b1,.string m1,.bool false,.string k1],.agg #[.bool true,.string m2,.bool false,.string k2]] w (RetB w (.tuple #[.agg #[.bool b3,.string m3,.bool false,.string k3],.int .i64 0])):=by
 have HS:=Lib.hid (fun V=>ratSign_f hq V)
 have hD:=fun V (hV:Env V)=>den_f hq V hV
 rw [←hmq] at hD
 have HD:=Lib.hid hD
 have hab:=fun V=>abs_f hq.num (enc_mag q.num.natAbs) V
 have HAB:=Lib.hid hab
 have hcp:=fun V (hV:Env V)=>coprime_f true mq q.num.natAbs V hV
 rw [←hden,←hi.den] at hcp
 rw [hden,←hq.mag.2] at hcp
 have HCP:=Lib.hid hcp
 have HM:=Lib.hid (fun V (hV:Env V)=>ratMul_f hp hi hr s1 (by rw [hmq];exact s4) s3 (by rw [hden,←hq.mag.2];exact s2) V hV)
 have HE:=Lib.hid (fun V (h:Below w.heap.size w V)=>hE.next h)
 have HN:=Lib.hid (fun V=>negate_f (enc_mag q.den) (show enc (-(q.den:Int))=.agg #[.bool true,.string mq] from by
  have h1:=hi.num
  rw [hnum] at h1
  have h2:q.num.sign=-1:=Int.sign_eq_neg_one_of_neg (of_decide_eq_true hq.mag.1.symm)
  rw [h2,Int.neg_one_mul] at h1
  exact h1) V)
 rw [←hmq] at HN
 rw [←hq.mag.2] at HAB
 generalize q.num.sign=s at *
 generalize hd:r.den=rd at *
 clear hp hq hi hr hmq hnum hden hD hab hcp s1 s2 s3 s4 hE hd
 have X:=Lib.hid ((((Sb.start w).new #[.bool b1,.string m1,.bool false,.string k1] 25).new #[.bool true,.string m2,.bool false,.string k2] 25).new #[.bool false,.string ⟨#[]⟩,.bool false,.string ⟨#[]⟩] 25)
 have X:=Lib.hid (X.out.pick [0,1,2] [(w.heap.size,#[.bool b1,.string m1,.bool false,.string k1],25),(w.heap.size+1,#[.bool true,.string m2,.bool false,.string k2],25),(w.heap.size+1+1,#[.bool false,.string ⟨#[]⟩,.bool false,.string ⟨#[]⟩],25)] [] (by simp) (by decide) (by simp))
 go_enter Tryz.func136,Tryz.ntmps136
 go_upto_region 1 with fail
 obtain ⟨a0,a1,a2,a3⟩:=X.out.c4 (i:=1) rfl
 go_wp2_with fail
 refine (HS.out _).mono ?_
 rintro e u1 ⟨rfl,hb9⟩
 have X:=Lib.hid (X.out.next hb9)
 clear hb9 a0 a1 a2 a3
 go_upto_region 3 with fail
 go_cut [6] (fun s6 wx=>∃ g,s6=.pointer (some ⟨g,0,none⟩)∧Sb w [(w.heap.size,#[.bool b1,.string m1,.bool false,.string k1],25),(w.heap.size+1,#[.bool true,.string m2,.bool false,.string k2],25),(w.heap.size+1+1,#[.bool false,.string ⟨#[]⟩,.bool false,.string ⟨#[]⟩],25),(g,#[.bool false,.string mq],23)] [] wx)
 case first =>
  obtain ⟨a0,a1,a2,a3⟩:=X.out.c4 (i:=1) rfl
  go_wp2_with fail
  refine (HD.out _ (HE.out _ X.out.bel)).mono ?_
  rintro e u2 ⟨rfl,hb9⟩
  have X:=Lib.hid (X.out.next hb9)
  clear hb9 a0 a1 a2 a3
  have X:=Lib.hid (X.out.new #[.bool false,.string mq] 23)
  go_wp2_with fail
  go_meet
  exact ⟨_,rfl,X.out⟩
 obtain ⟨g,rfl,hX⟩:=hcut
 have X:=Lib.hid hX
 clear hX
 obtain ⟨a0,a1,a2,a3⟩:=X.out.c4 (i:=1) rfl
 obtain ⟨c0,c1⟩:=X.out.c2 (i:=3) rfl
 obtain ⟨d0,d1⟩:=X.out.f2 (i:=3) rfl
 go_wp2_with fail
 refine (HN.out _).mono ?_
 rintro e u3 ⟨rfl,hb9⟩
 have X:=Lib.hid (X.out.next hb9)
 clear hb9 a0 a1 a2 a3 c0 c1 d0 d1
 obtain ⟨c0,c1⟩:=X.out.c2 (i:=3) rfl
 obtain ⟨d0,d1⟩:=X.out.f2 (i:=3) rfl
 go_upto_region 6 with fail
 have X:=Lib.hid (X.out.set2 (i:=3) rfl (.bool true) (.string mq))
 clear c0 c1 d0 d1
 refine wp_region_late (S:=fun w'=>(w'.cell? ⟨w.heap.size,0,none⟩=some (.bool b1)∧w'.cell? ⟨w.heap.size,1,none⟩=some (.string m1)∧w'.cell? ⟨w.heap.size,2,none⟩=some (.bool false)∧w'.cell? ⟨w.heap.size,3,none⟩=some (.string k1))∧(w'.cell? ⟨g,0,none⟩=some (.bool true)∧w'.cell? ⟨g,1,none⟩=some (.string mq))∧(w'.cell? ⟨w.heap.size+1,0,none⟩=some (.bool true)∧w'.cell? ⟨w.heap.size+1,1,none⟩=some (.string m2)∧w'.cell? ⟨w.heap.size+1,2,none⟩=some (.bool false)∧w'.cell? ⟨w.heap.size+1,3,none⟩=some (.string k2))) (L:=[]) (by kernel_rfl) ?_
 have X:=Lib.hid X.out.drew
 obtain ⟨V0,hV⟩:=wexi X.out
 rw [←hV] at X ⊢
 clear hV
 refine tk (i:=0) (oi:=⟨some 18,_,_,_,_,_⟩) (v:=_) rfl (by kernel_rfl) (fun _ _ _ h=>h) (⟨X.out.c4 (i:=0) rfl,X.out.c2 (i:=3) rfl,X.out.c4 (i:=1) rfl⟩) (Or.inl ⟨by rfl,by intro w hSw;(try dsimp only at hSw);(first | (go_simp;done) | (go_simp;with_reducible rfl))⟩) ?_
 try simp only [Act.put,seti,set0,setS]
 refine tk (i:=1) (oi:=⟨some 19,_,_,_,_,_⟩) (v:=_) rfl (by kernel_rfl) (fun _ _ _ h=>h) (⟨X.out.c4 (i:=0) rfl,X.out.c2 (i:=3) rfl,X.out.c4 (i:=1) rfl⟩) (Or.inl ⟨by rfl,by intro w hSw;(try dsimp only at hSw);(first | (go_simp;done) | (go_simp;with_reducible rfl))⟩) ?_
 try simp only [Act.put,seti,set0,setS]
 refine tk (i:=2) (oi:=⟨some 20,_,_,_,_,_⟩) (v:=_) rfl (by kernel_rfl) (fun _ _ _ h=>h) (⟨X.out.c4 (i:=0) rfl,X.out.c2 (i:=3) rfl,X.out.c4 (i:=1) rfl⟩) (Or.inl ⟨by rfl,by intro w hSw;(try dsimp only at hSw);(first | (go_simp;done) | (go_simp;with_reducible rfl))⟩) ?_
 try simp only [Act.put,seti,set0,setS]
 refine tk (i:=3) (oi:=⟨some 21,_,_,_,_,_⟩) (v:=_) rfl (by kernel_rfl) (fun _ _ _ h=>h) (⟨X.out.c4 (i:=0) rfl,X.out.c2 (i:=3) rfl,X.out.c4 (i:=1) rfl⟩) (Or.inl ⟨by rfl,by intro w hSw;(try dsimp only at hSw);(first | (go_simp;done) | (go_simp;with_reducible rfl))⟩) ?_
 try simp only [Act.put,seti,set0,setS]
 refine wpLate_one (i:=4) (o:=⟨some 22,_,_,_,_,_⟩) (by kernel_rfl) rfl (fun K hK=>?_)
 go_simp
 (go_at_call 173;refine (HAB.out _).mono ?_;rintro e u1 ⟨rfl,hb9⟩;have X:=Lib.hid (X.out.next hb9);clear hb9)
 try go_wp2_with fail
 refine hK.out _ _ (Or.inr (fun _=>⟨X.out.c4 (i:=0) rfl,X.out.c2 (i:=3) rfl,X.out.c4 (i:=1) rfl⟩)) ?_
 clear hK K
 try simp only [Act.put,seti,set0,setS]
 refine wpLate_one (i:=5) (o:=⟨some 23,_,_,_,_,_⟩) (by kernel_rfl) rfl (fun K hK=>?_)
 go_simp
 (go_at_call 129;refine (HCP.out _ (HE.out _ X.out.bel)).mono ?_;rintro e u2 ⟨rfl,hb9⟩;have X:=Lib.hid (X.out.next hb9);clear hb9)
 try go_wp2_with fail
 refine hK.out _ _ (Or.inr (fun _=>⟨X.out.c4 (i:=0) rfl,X.out.c2 (i:=3) rfl,X.out.c4 (i:=1) rfl⟩)) ?_
 clear hK K
 try simp only [Act.put,seti,set0,setS]
 refine wpLate_one (i:=6) (o:=⟨some 24,_,_,_,_,_⟩) (by kernel_rfl) rfl (fun K hK=>?_)
 go_simp
 (go_at_call 75;refine (HM.out _ (HE.out _ X.out.bel)).mono ?_;rintro e u3 ⟨rfl,hb9⟩;have X:=Lib.hid (X.out.next hb9);clear hb9)
 try go_wp2_with fail
 refine hK.out _ _ (Or.inr (fun _=>⟨X.out.c4 (i:=0) rfl,X.out.c2 (i:=3) rfl,X.out.c4 (i:=1) rfl⟩)) ?_
 clear hK K
 try simp only [Act.put,seti,set0,setS]
 refine wpLate_one (i:=7) (o:=⟨none,_,_,_,_,_⟩) (by kernel_rfl) rfl (fun K hK=>?_)
 obtain ⟨x0,x1,x2,x3⟩:=X.out.c4 (i:=2) rfl
 obtain ⟨y0,y1,y2,y3⟩:=X.out.f4 (i:=2) rfl
 have X:=Lib.hid (X.out.set4 (i:=2) rfl (.bool b3) (.string m3) (.bool false) (.string k3))
 go_simp
 refine hK.out _ _ (Or.inr (fun _=>⟨X.out.c4 (i:=0) rfl,X.out.c2 (i:=3) rfl,X.out.c4 (i:=1) rfl⟩)) ?_
 clear hK K x0 x1 x2 x3 y0 y1 y2 y3
 try simp only [Act.put,seti,set0,setS]
 obtain ⟨W4,hV⟩:=wexi X.out
 rw [←hV] at X ⊢
 clear hV
 refine tk (i:=8) (oi:=⟨some 5,_,_,_,_,_⟩) (v:=_) rfl (by kernel_rfl) (fun _ _ _ h=>h) (⟨X.out.c4 (i:=0) rfl,X.out.c2 (i:=3) rfl,X.out.c4 (i:=1) rfl⟩) (Or.inl ⟨by rfl,by intro w hSw;(try dsimp only at hSw);(first | (go_simp;done) | (go_simp;with_reducible rfl))⟩) ?_
 try simp only [Act.put,seti,set0,setS]
 refine wpLate_done (by kernel_rfl) ?_ _
 go_wp2
 obtain ⟨p0,p1,p2,p3⟩:=X.out.c4 (i:=2) rfl
 exact bodyPost_ret (v:=.tuple #[.agg #[.bool b3,.string m3,.bool false,.string k3],.int .i64 0]) (by simp [results,Tryz.results136,go_sem,p0,p1,p2,p3]) rfl ⟨rfl,X.out.bel⟩

theorem ratDiv_f {p q:Rat} {b1 b2 b3:Bool} {m1 m2 m3 k1 k2 k3:ByteArray} (hp:Rq p b1 m1 k1) (hq:Rq q b2 m2 k2) (hr:Rq (p / q) b3 m3 k3) (h0:q.num≠0) (s1:m1.size≤10000) (s2:m2.size≤10000) (s3:(mag p.den).size≤10000) (s4:(mag q.den).size≤10000) (w:World) (hE:Env w) :
  Calls Tryz.prog 136 #[.agg #[.bool b1,.string m1,.bool false,.string k1],.agg #[.bool b2,.string m2,.bool false,.string k2]] w (RetB w (.tuple #[.agg #[.bool b3,.string m3,.bool false,.string k3],.int .i64 0])):=by
 have hden:(q⁻¹).den=q.num.natAbs:=by rw [Rat.den_inv,if_neg h0]
 have hnum:=Rat.num_inv q
 have hs:q.num.sign≠0:=by rw [ne_eq,Int.sign_eq_zero_iff_zero];exact h0
 rw [Rat.div_def] at hr
 have hb:=hq.mag.1
 rcases Int.lt_or_lt_of_ne h0 with h | h
 · rw [decide_eq_true h] at hb
   subst hb
   have hi:Rq (q⁻¹) true (mag q.den) (dm (q⁻¹).den):=⟨by
    rw [hnum,Int.sign_eq_neg_one_of_neg h,Int.neg_one_mul]
    have:=q.den_pos
    unfold enc
    rw [decide_eq_true (show -(q.den:Int)<0 by omega),Int.natAbs_neg,Int.natAbs_natCast],rfl⟩
   exact ratDiv_neg hp hq hi hr rfl hnum hden hs s1 s2 s3 s4 w hE
 · rw [decide_eq_false (by omega)] at hb
   subst hb
   have hi:Rq (q⁻¹) false (mag q.den) (dm (q⁻¹).den):=⟨by rw [hnum,Int.sign_eq_one_of_pos h,Int.one_mul];exact enc_mag q.den,rfl⟩
   exact ratDiv_pos hp hq hi hr rfl hnum hden hs s1 s2 s3 s4 w hE

end Go.Proofs.YtpnokfgplnmjpaaGreatDoor


namespace Go.Proofs.YtpnokfgplnmjpaaGreatDoor
open Go.RowKit
attribute [local go_sem ↓] Go.wp_at_zero Go.wp_at_succ
theorem mul_z {p q:Rat} {b1 b2:Bool} {m1 m2 k1 k2:ByteArray} {b3:Bool} {m3 k3:ByteArray} (hp:Rq p b1 m1 k1) (hq:Rq q b2 m2 k2) (hr:Rq (p*q) b3 m3 k3) (zp:Sz 10000 p) (zq:Sz 10000 q) (w:World) (hE:Env w) :
 Calls Tryz.prog 75 #[.agg #[.bool b1,.string m1,.bool false,.string k1],.agg #[.bool b2,.string m2,.bool false,.string k2]] w (RetB w (.agg #[.bool b3,.string m3,.bool false,.string k3])):=ratMul_f hp hq hr (zp.m hp (Nat.le_refl _)).1 (zq.m hq (Nat.le_refl _)).1 (zp.m hp (Nat.le_refl _)).2 (zq.m hq (Nat.le_refl _)).2 w hE
theorem rmul_z {p q:Rat} {b1 b2:Bool} {m1 m2 k1 k2:ByteArray} {b3:Bool} {m3 k3:ByteArray} (hp:Rq p b1 m1 k1) (hq:Rq q b2 m2 k2) (hr:Rq (p*q) b3 m3 k3) (zp:Sz 10000 p) (zq:Sz 10000 q) (w:World) :
 Calls Tryz.prog 78 #[.agg #[.bool b1,.string m1,.bool false,.string k1],.agg #[.bool b2,.string m2,.bool false,.string k2]] w (RetB w (.agg #[.bool b3,.string m3,.bool false,.string k3])):=rMul_f hp hq hr (zp.m hp (Nat.le_refl _)).1 (zq.m hq (Nat.le_refl _)).1 (zp.m hp (Nat.le_refl _)).2 (zq.m hq (Nat.le_refl _)).2 w
theorem add_z {p q:Rat} {b1 b2:Bool} {m1 m2 k1 k2:ByteArray} {b3:Bool} {m3 k3:ByteArray} (hp:Rq p b1 m1 k1) (hq:Rq q b2 m2 k2) (hr:Rq (p+q) b3 m3 k3) (zp:Sz 10000 p) (zq:Sz 10000 q) (w:World) (hE:Env w) :
 Calls Tryz.prog 89 #[.agg #[.bool b1,.string m1,.bool false,.string k1],.agg #[.bool b2,.string m2,.bool false,.string k2]] w (RetB w (.agg #[.bool b3,.string m3,.bool false,.string k3])):=ratAdd_f hp hq hr (zp.m hp (Nat.le_refl _)).1 (zq.m hq (Nat.le_refl _)).1 (zp.m hp (Nat.le_refl _)).2 (zq.m hq (Nat.le_refl _)).2 w hE
theorem radd_z {p q:Rat} {b1 b2:Bool} {m1 m2 k1 k2:ByteArray} {b3:Bool} {m3 k3:ByteArray} (hp:Rq p b1 m1 k1) (hq:Rq q b2 m2 k2) (hr:Rq (p+q) b3 m3 k3) (zp:Sz 10000 p) (zq:Sz 10000 q) (w:World) :
 Calls Tryz.prog 77 #[.agg #[.bool b1,.string m1,.bool false,.string k1],.agg #[.bool b2,.string m2,.bool false,.string k2]] w (RetB w (.agg #[.bool b3,.string m3,.bool false,.string k3])):=rAdd_f hp hq hr (zp.m hp (Nat.le_refl _)).1 (zq.m hq (Nat.le_refl _)).1 (zp.m hp (Nat.le_refl _)).2 (zq.m hq (Nat.le_refl _)).2 w
theorem sub_z {p q:Rat} {b1 b2:Bool} {m1 m2 k1 k2:ByteArray} {b3:Bool} {m3 k3:ByteArray} (hp:Rq p b1 m1 k1) (hq:Rq q b2 m2 k2) (hr:Rq (p-q) b3 m3 k3) (zp:Sz 10000 p) (zq:Sz 10000 q) (w:World) (hE:Env w) :
 Calls Tryz.prog 81 #[.agg #[.bool b1,.string m1,.bool false,.string k1],.agg #[.bool b2,.string m2,.bool false,.string k2]] w (RetB w (.agg #[.bool b3,.string m3,.bool false,.string k3])):=ratSub_f hp hq hr (zp.m hp (Nat.le_refl _)).1 (zq.m hq (Nat.le_refl _)).1 (zp.m hp (Nat.le_refl _)).2 (zq.m hq (Nat.le_refl _)).2 w hE
theorem rsub_z {p q:Rat} {b1 b2:Bool} {m1 m2 k1 k2:ByteArray} {b3:Bool} {m3 k3:ByteArray} (hp:Rq p b1 m1 k1) (hq:Rq q b2 m2 k2) (hr:Rq (p-q) b3 m3 k3) (zp:Sz 10000 p) (zq:Sz 10000 q) (w:World) :
 Calls Tryz.prog 83 #[.agg #[.bool b1,.string m1,.bool false,.string k1],.agg #[.bool b2,.string m2,.bool false,.string k2]] w (RetB w (.agg #[.bool b3,.string m3,.bool false,.string k3])):=rSub_f hp hq hr (zp.m hp (Nat.le_refl _)).1 (zq.m hq (Nat.le_refl _)).1 (zp.m hp (Nat.le_refl _)).2 (zq.m hq (Nat.le_refl _)).2 w
theorem div_z {p q:Rat} {b1 b2:Bool} {m1 m2 k1 k2:ByteArray} {b3:Bool} {m3 k3:ByteArray} (hp:Rq p b1 m1 k1) (hq:Rq q b2 m2 k2) (hr:Rq (p / q) b3 m3 k3) (h0:q.num≠0) (zp:Sz 10000 p) (zq:Sz 10000 q) (w:World) (hE:Env w) :
 Calls Tryz.prog 136 #[.agg #[.bool b1,.string m1,.bool false,.string k1],.agg #[.bool b2,.string m2,.bool false,.string k2]] w (RetB w (.tuple #[.agg #[.bool b3,.string m3,.bool false,.string k3],.int .i64 0])):=ratDiv_f hp hq hr h0 (zp.m hp (Nat.le_refl _)).1 (zq.m hq (Nat.le_refl _)).1 (zp.m hp (Nat.le_refl _)).2 (zq.m hq (Nat.le_refl _)).2 w hE
theorem rdiv_z {p q:Rat} {b1 b2:Bool} {m1 m2 k1 k2:ByteArray} {b3:Bool} {m3 k3:ByteArray} (hp:Rq p b1 m1 k1) (hq:Rq q b2 m2 k2) (hr:Rq (p / q) b3 m3 k3) (h0:q.num≠0) (zp:Sz 10000 p) (zq:Sz 10000 q) (w:World) :
 Calls Tryz.prog 82 #[.agg #[.bool b1,.string m1,.bool false,.string k1],.agg #[.bool b2,.string m2,.bool false,.string k2]] w (RetB w (.agg #[.bool b3,.string m3,.bool false,.string k3])):=rDiv_f hp hq hr h0 (zp.m hp (Nat.le_refl _)).1 (zq.m hq (Nat.le_refl _)).1 (zp.m hp (Nat.le_refl _)).2 (zq.m hq (Nat.le_refl _)).2 w
theorem cmp_z {p q:Rat} {b1 b2:Bool} {m1 m2 k1 k2:ByteArray} (hp:Rq p b1 m1 k1) (hq:Rq q b2 m2 k2) (zp:Sz 10000 p) (zq:Sz 10000 q) (w:World) (hE:Env w) :
  Calls Tryz.prog 86 #[.agg #[.bool b1,.string m1,.bool false,.string k1],.agg #[.bool b2,.string m2,.bool false,.string k2]] w (RetB w (.int .i64 (Sg.sgq (p-q)))):=by
 rw [sgq_cmp]
 exact ratCompare_f hp hq (zp.m hp (Nat.le_refl _)).1 (zq.m hq (Nat.le_refl _)).1 (zp.m hp (Nat.le_refl _)).2 (zq.m hq (Nat.le_refl _)).2 w hE
theorem rcmp_z {p q:Rat} {b1 b2:Bool} {m1 m2 k1 k2:ByteArray} (hp:Rq p b1 m1 k1) (hq:Rq q b2 m2 k2) (zp:Sz 10000 p) (zq:Sz 10000 q) (w:World) :
  Calls Tryz.prog 140 #[.agg #[.bool b1,.string m1,.bool false,.string k1],.agg #[.bool b2,.string m2,.bool false,.string k2]] w (RetB w (.int .i64 (Sg.sgq (p-q)))):=by
 rw [sgq_cmp]
 exact rCompare_f hp hq (zp.m hp (Nat.le_refl _)).1 (zq.m hq (Nat.le_refl _)).1 (zp.m hp (Nat.le_refl _)).2 (zq.m hq (Nat.le_refl _)).2 w
theorem sign_z {q:Rat} {b:Bool} {m k:ByteArray} (h:Rq q b m k) (w:World):Calls Tryz.prog 71 #[.agg #[.bool b,.string m,.bool false,.string k]] w (RetB w (.int .i64 (Sg.sgq q))):=by
 rw [sgq_num]
 exact ratSign_f h w
theorem rsign_z {q:Rat} {b:Bool} {m k:ByteArray} (h:Rq q b m k) (w:World):Calls Tryz.prog 28 #[.agg #[.bool b,.string m,.bool false,.string k]] w (RetB w (.int .i64 (Sg.sgq q))):=by
 rw [sgq_num]
 exact rSign_f h w
theorem Sz.sub {n m:Nat} {p q:Rat} (hp:Sz n p) (hq:Sz m q):Sz (n+m+1) (p-q):=by
 rw [Rat.sub_eq_add_neg]
 exact hp.add hq.minus
end Go.Proofs.YtpnokfgplnmjpaaGreatDoor


namespace Go.Proofs.YtpnokfgplnmjpaaGreatDoor
open Go.RowKit

inductive At {α:Type}:List α→Nat→α→Prop
 | here {x:α} {l:List α}:At (x :: l) 0 x
 | there {x y:α} {l:List α} {i:Nat} (h:At l i x):At (y :: l) (i+1) x
theorem At.get {α:Type} {l:List α} {i:Nat} {x:α} (h:At l i x):l[i]?=some x:=by
 induction h with
 | here=>rfl
 | there _ ih=>simpa using ih
theorem At.left {α:Type} {l l':List α} {i:Nat} {x:α} (h:At l i x):At (l++l') i x:=by
 induction h with
 | here=>exact At.here
 | there _ ih=>exact At.there ih
theorem At.last {α:Type} {x:α}:∀ {l:List α},At (l++[x]) l.length x
 | []=>At.here
 | _ :: _=>At.there At.last
def puts (W:World) (g:Nat):Nat→List Value→World
 | _,[]=>W
 | k,y :: ys=>puts (W.setCell ⟨g,k,none⟩ y) g (k+1) ys
def sets (cs:Array Value):Nat→List Value→Array Value
 | _,[]=>cs
 | k,y :: ys=>sets (cs.setIfInBounds k y) (k+1) ys
theorem puts_at {g:Nat} {T:TypeId}:∀ (ys:List Value) (k:Nat) (cs:Array Value) (W:World),W.heap[g]?=some (.cells cs T (0,0))→(puts W g k ys).heap[g]?=some (.cells (sets cs k ys) T (0,0))
 | [],_,_,_,h=>h
 | y :: ys,k,cs,W,h=>puts_at ys (k+1) _ _ (by simp [World.setCell,Array.getElem?_modify,h])
theorem puts_oth {g:Nat}:∀ (ys:List Value) (k:Nat) (W:World) (j:Nat),j≠g→(puts W g k ys).heap[j]?=W.heap[j]?
 | [],_,_,_,_=>rfl
 | y :: ys,k,W,j,h=>(puts_oth ys (k+1) _ j h).trans (Below.heap_setCell W ⟨g,k,none⟩ y j h)
theorem puts_size {g:Nat}:∀ (ys:List Value) (k:Nat) (W:World),(puts W g k ys).heap.size=W.heap.size
 | [],_,_=>rfl
 | y :: ys,k,W=>(puts_size ys (k+1) _).trans (by simp [World.setCell])
theorem puts_below {B g:Nat} (hB:B≤g):∀ (ys:List Value) (k:Nat) (a W:World),Below B a W→Below B a (puts W g k ys)
 | [],_,_,_,h=>h
 | y :: ys,k,a,W,h=>puts_below hB ys (k+1) a _ (h.setCell (p:=⟨g,k,none⟩) hB y)
section
variable {w W:World} {l:List (Nat×Array Value×TypeId)} {rs:List (Option Addr×Nat×Nat×Nat)} {g:Nat} {T:TypeId}
theorem Sb.puts (h:Sb w l rs W) {i:Nat} {cs:Array Value} (hl:l[i]?=some (g,cs,T)) (ys:List Value) (he:sets cs 0 ys=ys.toArray):Sb w (l.set i (g,ys.toArray,T)) rs (puts W g 0 ys):=by
 have hm:=List.mem_of_getElem? hl
 refine h.put hl ?_ (fun k hk=>puts_oth ys 0 W k hk) (Nat.le_of_eq (puts_size ys 0 W).symm) (puts_below (h.lo _ hm) ys 0 W W (Below.refl _ _))
 rw [←he]
 exact puts_at ys 0 cs W (h.k _ hm)
theorem Sb.init3 {l2 l3 l4:List (Nat×Array Value×TypeId)} (h:Sb w (((l++l2)++l3)++l4) rs W):Sb w l [] W:=h.init.init.init
theorem nf1 (X:Sb w l rs W) {i k:Nat} {xs:List Value} {y:Value} (hl:At l i (g,xs.toArray,T)):Sb w (l.set i (g,(xs.set k y).toArray,T)) rs (W.setCell ⟨g,k,none⟩ y):=by
 have hm:=List.mem_of_getElem? hl.get
 refine X.put hl.get ?_ (fun j hj=>Below.heap_setCell W ⟨g,k,none⟩ y j hj) (Nat.le_of_eq (by simp [World.setCell])) ((Below.refl _ _).setCell (p:=⟨g,k,none⟩) (X.lo _ hm) y)
 have h:=X.k _ hm
 simp [World.setCell,Array.getElem?_modify,h]
theorem sf1 {M:World→Prop} (X:Sb w l rs W) {i k:Nat} {xs:List Value} {y:Value} (hl:At l i (g,xs.toArray,T)) (h:∀ V,Sb w (l.set i (g,(xs.set k y).toArray,T)) rs V→M V):M (W.setCell ⟨g,k,none⟩ y):=h _ (nf1 X hl)
theorem kf1 {a':Act} {K C:Act→World→Prop} {c:World→Prop} (hK:Shut (∀ a' w',c w'→C a' w'→K a' w')) (X:Sb w l rs W) {i k:Nat} {xs:List Value} {y:Value} (hl:At l i (g,xs.toArray,T)) (hc:∀ V,Sb w (l.set i (g,(xs.set k y).toArray,T)) rs V→c V) (h:∀ V,Sb w (l.set i (g,(xs.set k y).toArray,T)) rs V→C a' V):K a' (W.setCell ⟨g,k,none⟩ y):=hK.out _ _ (hc _ (nf1 X hl)) (h _ (nf1 X hl))
theorem nf2 (X:Sb w l rs W) {i:Nat} {x0 x1 y0 y1:Value} (hl:At l i (g,#[x0,x1],T)):Sb w (l.set i (g,#[y0,y1],T)) rs ((W.setCell ⟨g,0,none⟩ y0).setCell ⟨g,1,none⟩ y1):=by have h1:=X.puts hl.get [y0,y1] (by simp [sets]);simp only [puts,Nat.reduceAdd] at h1;exact h1
theorem sf2 {M:World→Prop} (X:Sb w l rs W) {i:Nat} {x0 x1 y0 y1:Value} (hl:At l i (g,#[x0,x1],T)) (h:∀ V,Sb w (l.set i (g,#[y0,y1],T)) rs V→M V):M ((W.setCell ⟨g,0,none⟩ y0).setCell ⟨g,1,none⟩ y1):=h _ (nf2 X hl)
theorem kf2 {a':Act} {K C:Act→World→Prop} {c:World→Prop} (hK:Shut (∀ a' w',c w'→C a' w'→K a' w')) (X:Sb w l rs W) {i:Nat} {x0 x1 y0 y1:Value} (hl:At l i (g,#[x0,x1],T)) (hc:∀ V,Sb w (l.set i (g,#[y0,y1],T)) rs V→c V) (h:∀ V,Sb w (l.set i (g,#[y0,y1],T)) rs V→C a' V):K a' ((W.setCell ⟨g,0,none⟩ y0).setCell ⟨g,1,none⟩ y1):=hK.out _ _ (hc _ (nf2 X hl)) (h _ (nf2 X hl))
theorem nf4 (X:Sb w l rs W) {i:Nat} {x0 x1 x2 x3 y0 y1 y2 y3:Value} (hl:At l i (g,#[x0,x1,x2,x3],T)):Sb w (l.set i (g,#[y0,y1,y2,y3],T)) rs ((((W.setCell ⟨g,0,none⟩ y0).setCell ⟨g,1,none⟩ y1).setCell ⟨g,2,none⟩ y2).setCell ⟨g,3,none⟩ y3):=by have h1:=X.puts hl.get [y0,y1,y2,y3] (by simp [sets]);simp only [puts,Nat.reduceAdd] at h1;exact h1
theorem sf4 {M:World→Prop} (X:Sb w l rs W) {i:Nat} {x0 x1 x2 x3 y0 y1 y2 y3:Value} (hl:At l i (g,#[x0,x1,x2,x3],T)) (h:∀ V,Sb w (l.set i (g,#[y0,y1,y2,y3],T)) rs V→M V):M ((((W.setCell ⟨g,0,none⟩ y0).setCell ⟨g,1,none⟩ y1).setCell ⟨g,2,none⟩ y2).setCell ⟨g,3,none⟩ y3):=h _ (nf4 X hl)
theorem kf4 {a':Act} {K C:Act→World→Prop} {c:World→Prop} (hK:Shut (∀ a' w',c w'→C a' w'→K a' w')) (X:Sb w l rs W) {i:Nat} {x0 x1 x2 x3 y0 y1 y2 y3:Value} (hl:At l i (g,#[x0,x1,x2,x3],T)) (hc:∀ V,Sb w (l.set i (g,#[y0,y1,y2,y3],T)) rs V→c V) (h:∀ V,Sb w (l.set i (g,#[y0,y1,y2,y3],T)) rs V→C a' V):K a' ((((W.setCell ⟨g,0,none⟩ y0).setCell ⟨g,1,none⟩ y1).setCell ⟨g,2,none⟩ y2).setCell ⟨g,3,none⟩ y3):=hK.out _ _ (hc _ (nf4 X hl)) (h _ (nf4 X hl))
theorem nf9 (X:Sb w l rs W) {i:Nat} {x0 x1 x2 x3 x4 x5 x6 x7 x8 y0 y1 y2 y3 y4 y5 y6 y7 y8:Value} (hl:At l i (g,#[x0,x1,x2,x3,x4,x5,x6,x7,x8],T)):Sb w (l.set i (g,#[y0,y1,y2,y3,y4,y5,y6,y7,y8],T)) rs (((((((((W.setCell ⟨g,0,none⟩ y0).setCell ⟨g,1,none⟩ y1).setCell ⟨g,2,none⟩ y2).setCell ⟨g,3,none⟩ y3).setCell ⟨g,4,none⟩ y4).setCell ⟨g,5,none⟩ y5).setCell ⟨g,6,none⟩ y6).setCell ⟨g,7,none⟩ y7).setCell ⟨g,8,none⟩ y8):=by have h1:=X.puts hl.get [y0,y1,y2,y3,y4,y5,y6,y7,y8] (by simp [sets]);simp only [puts,Nat.reduceAdd] at h1;exact h1
theorem sf9 {M:World→Prop} (X:Sb w l rs W) {i:Nat} {x0 x1 x2 x3 x4 x5 x6 x7 x8 y0 y1 y2 y3 y4 y5 y6 y7 y8:Value} (hl:At l i (g,#[x0,x1,x2,x3,x4,x5,x6,x7,x8],T)) (h:∀ V,Sb w (l.set i (g,#[y0,y1,y2,y3,y4,y5,y6,y7,y8],T)) rs V→M V):M (((((((((W.setCell ⟨g,0,none⟩ y0).setCell ⟨g,1,none⟩ y1).setCell ⟨g,2,none⟩ y2).setCell ⟨g,3,none⟩ y3).setCell ⟨g,4,none⟩ y4).setCell ⟨g,5,none⟩ y5).setCell ⟨g,6,none⟩ y6).setCell ⟨g,7,none⟩ y7).setCell ⟨g,8,none⟩ y8):=h _ (nf9 X hl)
theorem kf9 {a':Act} {K C:Act→World→Prop} {c:World→Prop} (hK:Shut (∀ a' w',c w'→C a' w'→K a' w')) (X:Sb w l rs W) {i:Nat} {x0 x1 x2 x3 x4 x5 x6 x7 x8 y0 y1 y2 y3 y4 y5 y6 y7 y8:Value} (hl:At l i (g,#[x0,x1,x2,x3,x4,x5,x6,x7,x8],T)) (hc:∀ V,Sb w (l.set i (g,#[y0,y1,y2,y3,y4,y5,y6,y7,y8],T)) rs V→c V) (h:∀ V,Sb w (l.set i (g,#[y0,y1,y2,y3,y4,y5,y6,y7,y8],T)) rs V→C a' V):K a' (((((((((W.setCell ⟨g,0,none⟩ y0).setCell ⟨g,1,none⟩ y1).setCell ⟨g,2,none⟩ y2).setCell ⟨g,3,none⟩ y3).setCell ⟨g,4,none⟩ y4).setCell ⟨g,5,none⟩ y5).setCell ⟨g,6,none⟩ y6).setCell ⟨g,7,none⟩ y7).setCell ⟨g,8,none⟩ y8):=hK.out _ _ (hc _ (nf9 X hl)) (h _ (nf9 X hl))
theorem nf12 (X:Sb w l rs W) {i:Nat} {x0 x1 x2 x3 x4 x5 x6 x7 x8 x9 x10 x11 y0 y1 y2 y3 y4 y5 y6 y7 y8 y9 y10 y11:Value} (hl:At l i (g,#[x0,x1,x2,x3,x4,x5,x6,x7,x8,x9,x10,x11],T)):Sb w (l.set i (g,#[y0,y1,y2,y3,y4,y5,y6,y7,y8,y9,y10,y11],T)) rs ((((((((((((W.setCell ⟨g,0,none⟩ y0).setCell ⟨g,1,none⟩ y1).setCell ⟨g,2,none⟩ y2).setCell ⟨g,3,none⟩ y3).setCell ⟨g,4,none⟩ y4).setCell ⟨g,5,none⟩ y5).setCell ⟨g,6,none⟩ y6).setCell ⟨g,7,none⟩ y7).setCell ⟨g,8,none⟩ y8).setCell ⟨g,9,none⟩ y9).setCell ⟨g,10,none⟩ y10).setCell ⟨g,11,none⟩ y11):=by have h1:=X.puts hl.get [y0,y1,y2,y3,y4,y5,y6,y7,y8,y9,y10,y11] (by simp [sets]);simp only [puts,Nat.reduceAdd] at h1;exact h1
theorem sf12 {M:World→Prop} (X:Sb w l rs W) {i:Nat} {x0 x1 x2 x3 x4 x5 x6 x7 x8 x9 x10 x11 y0 y1 y2 y3 y4 y5 y6 y7 y8 y9 y10 y11:Value} (hl:At l i (g,#[x0,x1,x2,x3,x4,x5,x6,x7,x8,x9,x10,x11],T)) (h:∀ V,Sb w (l.set i (g,#[y0,y1,y2,y3,y4,y5,y6,y7,y8,y9,y10,y11],T)) rs V→M V):M ((((((((((((W.setCell ⟨g,0,none⟩ y0).setCell ⟨g,1,none⟩ y1).setCell ⟨g,2,none⟩ y2).setCell ⟨g,3,none⟩ y3).setCell ⟨g,4,none⟩ y4).setCell ⟨g,5,none⟩ y5).setCell ⟨g,6,none⟩ y6).setCell ⟨g,7,none⟩ y7).setCell ⟨g,8,none⟩ y8).setCell ⟨g,9,none⟩ y9).setCell ⟨g,10,none⟩ y10).setCell ⟨g,11,none⟩ y11):=h _ (nf12 X hl)
theorem kf12 {a':Act} {K C:Act→World→Prop} {c:World→Prop} (hK:Shut (∀ a' w',c w'→C a' w'→K a' w')) (X:Sb w l rs W) {i:Nat} {x0 x1 x2 x3 x4 x5 x6 x7 x8 x9 x10 x11 y0 y1 y2 y3 y4 y5 y6 y7 y8 y9 y10 y11:Value} (hl:At l i (g,#[x0,x1,x2,x3,x4,x5,x6,x7,x8,x9,x10,x11],T)) (hc:∀ V,Sb w (l.set i (g,#[y0,y1,y2,y3,y4,y5,y6,y7,y8,y9,y10,y11],T)) rs V→c V) (h:∀ V,Sb w (l.set i (g,#[y0,y1,y2,y3,y4,y5,y6,y7,y8,y9,y10,y11],T)) rs V→C a' V):K a' ((((((((((((W.setCell ⟨g,0,none⟩ y0).setCell ⟨g,1,none⟩ y1).setCell ⟨g,2,none⟩ y2).setCell ⟨g,3,none⟩ y3).setCell ⟨g,4,none⟩ y4).setCell ⟨g,5,none⟩ y5).setCell ⟨g,6,none⟩ y6).setCell ⟨g,7,none⟩ y7).setCell ⟨g,8,none⟩ y8).setCell ⟨g,9,none⟩ y9).setCell ⟨g,10,none⟩ y10).setCell ⟨g,11,none⟩ y11):=hK.out _ _ (hc _ (nf12 X hl)) (h _ (nf12 X hl))
theorem gs0 {M:World→Prop}  (h:∀ V,Sb w [] [] V→M V):M w:=h _ ((Sb.start w))
theorem gs1 {M:World→Prop} {c0:Array Value} {t0:TypeId} (h:∀ V,Sb w [(w.heap.size,c0,t0)] [] V→M V):M (w.alloc (.cells c0 t0)):=h _ (((Sb.start w).new c0 t0).pick [0] _ [] (by simp) (by decide) (by simp))
theorem gs2 {M:World→Prop} {c0:Array Value} {t0:TypeId} {c1:Array Value} {t1:TypeId} (h:∀ V,Sb w [(w.heap.size,c0,t0),(w.heap.size+1,c1,t1)] [] V→M V):M ((w.alloc (.cells c0 t0)).alloc (.cells c1 t1)):=h _ ((((Sb.start w).new c0 t0).new c1 t1).pick [0,1] _ [] (by simp) (by decide) (by simp))
theorem gs3 {M:World→Prop} {c0:Array Value} {t0:TypeId} {c1:Array Value} {t1:TypeId} {c2:Array Value} {t2:TypeId} (h:∀ V,Sb w [(w.heap.size,c0,t0),(w.heap.size+1,c1,t1),(w.heap.size+1+1,c2,t2)] [] V→M V):M (((w.alloc (.cells c0 t0)).alloc (.cells c1 t1)).alloc (.cells c2 t2)):=h _ (((((Sb.start w).new c0 t0).new c1 t1).new c2 t2).pick [0,1,2] _ [] (by simp) (by decide) (by simp))
theorem gs4 {M:World→Prop} {c0:Array Value} {t0:TypeId} {c1:Array Value} {t1:TypeId} {c2:Array Value} {t2:TypeId} {c3:Array Value} {t3:TypeId} (h:∀ V,Sb w [(w.heap.size,c0,t0),(w.heap.size+1,c1,t1),(w.heap.size+1+1,c2,t2),(w.heap.size+1+1+1,c3,t3)] [] V→M V):M ((((w.alloc (.cells c0 t0)).alloc (.cells c1 t1)).alloc (.cells c2 t2)).alloc (.cells c3 t3)):=h _ ((((((Sb.start w).new c0 t0).new c1 t1).new c2 t2).new c3 t3).pick [0,1,2,3] _ [] (by simp) (by decide) (by simp))
theorem gs5 {M:World→Prop} {c0:Array Value} {t0:TypeId} {c1:Array Value} {t1:TypeId} {c2:Array Value} {t2:TypeId} {c3:Array Value} {t3:TypeId} {c4:Array Value} {t4:TypeId} (h:∀ V,Sb w [(w.heap.size,c0,t0),(w.heap.size+1,c1,t1),(w.heap.size+1+1,c2,t2),(w.heap.size+1+1+1,c3,t3),(w.heap.size+1+1+1+1,c4,t4)] [] V→M V):M (((((w.alloc (.cells c0 t0)).alloc (.cells c1 t1)).alloc (.cells c2 t2)).alloc (.cells c3 t3)).alloc (.cells c4 t4)):=h _ (((((((Sb.start w).new c0 t0).new c1 t1).new c2 t2).new c3 t3).new c4 t4).pick [0,1,2,3,4] _ [] (by simp) (by decide) (by simp))
theorem gs6 {M:World→Prop} {c0:Array Value} {t0:TypeId} {c1:Array Value} {t1:TypeId} {c2:Array Value} {t2:TypeId} {c3:Array Value} {t3:TypeId} {c4:Array Value} {t4:TypeId} {c5:Array Value} {t5:TypeId} (h:∀ V,Sb w [(w.heap.size,c0,t0),(w.heap.size+1,c1,t1),(w.heap.size+1+1,c2,t2),(w.heap.size+1+1+1,c3,t3),(w.heap.size+1+1+1+1,c4,t4),(w.heap.size+1+1+1+1+1,c5,t5)] [] V→M V):M ((((((w.alloc (.cells c0 t0)).alloc (.cells c1 t1)).alloc (.cells c2 t2)).alloc (.cells c3 t3)).alloc (.cells c4 t4)).alloc (.cells c5 t5)):=h _ ((((((((Sb.start w).new c0 t0).new c1 t1).new c2 t2).new c3 t3).new c4 t4).new c5 t5).pick [0,1,2,3,4,5] _ [] (by simp) (by decide) (by simp))
end
theorem ke {w:World} (hE:Env w) {p:World→Prop} (h:∀ V,Env V→p V):Hid (∀ V,Below w.heap.size w V→p V):=Lib.hid fun V hb=>h V (hE.next hb)
theorem kn (w:World) {p:World→Prop} (h:∀ V,p V):Hid (∀ V,Below w.heap.size w V→p V):=Lib.hid fun V _=>h V

section
variable {P:Program} {ops:Array Oper} {Q:Exit→Act→World→Prop} {md:Region.Mode} {S:World→Prop} {L:List Nat} {i j k m:Nat} {o o1 o2 o3:Oper} {fuel:Nat} {listed:Array Bool} {a:Act} {w:World}
theorem four (_hf:rdy ops listed=[i,j,k,m]) (ho:ops[i]?=some o) (ho1:ops[j]?=some o1) (ho2:ops[k]?=some o2) (ho3:ops[m]?=some o3) (hr:Region.ready md ops listed=[i,j,k,m])
  (h:(∀ K':Act→World→Prop,Shut (∀ a' w',(L.contains i=true∨(S w→S w'))→wpLate P md ops Q S L fuel (listed.setIfInBounds i true) a' w'→K' a' w')→if Region.wanted o (yielded ops a.tmps)=true then Oper.wp P o a w K' Q else K' (a.put o.dst undef) w)) (h1:(∀ K':Act→World→Prop,Shut (∀ a' w',(L.contains j=true∨(S w→S w'))→wpLate P md ops Q S L fuel (listed.setIfInBounds j true) a' w'→K' a' w')→if Region.wanted o1 (yielded ops a.tmps)=true then Oper.wp P o1 a w K' Q else K' (a.put o1.dst undef) w)) (h2:(∀ K':Act→World→Prop,Shut (∀ a' w',(L.contains k=true∨(S w→S w'))→wpLate P md ops Q S L fuel (listed.setIfInBounds k true) a' w'→K' a' w')→if Region.wanted o2 (yielded ops a.tmps)=true then Oper.wp P o2 a w K' Q else K' (a.put o2.dst undef) w)) (h3:(∀ K':Act→World→Prop,Shut (∀ a' w',(L.contains m=true∨(S w→S w'))→wpLate P md ops Q S L fuel (listed.setIfInBounds m true) a' w'→K' a' w')→if Region.wanted o3 (yielded ops a.tmps)=true then Oper.wp P o3 a w K' Q else K' (a.put o3.dst undef) w)) :
  wpLate P md ops Q S L (fuel+1) listed a w:=by
 refine ⟨fun h0=>(by rw [h0] at hr;cases hr),fun n hn=>?_⟩
 rw [hr] at hn
 rcases (by simpa using hn:n=i∨n=j∨n=k∨n=m) with rfl | rfl | rfl | rfl
 · exact wpOp_step ho (fun K' hK=>h K' (fun a w hS hW=>hK a w ⟨hS,hW⟩))
 · exact wpOp_step ho1 (fun K' hK=>h1 K' (fun a w hS hW=>hK a w ⟨hS,hW⟩))
 · exact wpOp_step ho2 (fun K' hK=>h2 K' (fun a w hS hW=>hK a w ⟨hS,hW⟩))
 · exact wpOp_step ho3 (fun K' hK=>h3 K' (fun a w hS hW=>hK a w ⟨hS,hW⟩))
end
theorem wk {p:Prop} (h:p:=by
 go_wp2_with (first
  | exact Z1.out | exact Z2.out | exact Z3.out | exact Z4.out | exact Z5.out | exact Z6.out
  | ((first | (((with_reducible refine (show Calls _ _ _ _ _ from ?_));first | (with_reducible refine (C1.out _ X.out.bel).mono ?_) | (with_reducible refine (C2.out _ X.out.bel).mono ?_) | (with_reducible refine (C3.out _ X.out.bel).mono ?_) | (with_reducible refine (C4.out _ X.out.bel).mono ?_) | (with_reducible refine (C5.out _ X.out.bel).mono ?_) | (with_reducible refine (C6.out _ X.out.bel).mono ?_) | (with_reducible refine (C7.out _ X.out.bel).mono ?_) | (with_reducible refine (C8.out _ X.out.bel).mono ?_) | (with_reducible refine (C9.out _ X.out.bel).mono ?_) | (with_reducible refine (C10.out _ X.out.bel).mono ?_) | (with_reducible refine (C11.out _ X.out.bel).mono ?_) | (with_reducible refine (C12.out _ X.out.bel).mono ?_) | (with_reducible refine (C13.out _ X.out.bel).mono ?_) | (with_reducible refine (C14.out _ X.out.bel).mono ?_) | (with_reducible refine (C15.out _ X.out.bel).mono ?_) | (with_reducible refine (C16.out _ X.out.bel).mono ?_) | (with_reducible refine (C1.out _ X.out.bel (by first | assumption | omega)).mono ?_) | (with_reducible refine (C2.out _ X.out.bel (by first | assumption | omega)).mono ?_) | (with_reducible refine (C3.out _ X.out.bel (by first | assumption | omega)).mono ?_) | (with_reducible refine (C4.out _ X.out.bel (by first | assumption | omega)).mono ?_) | (with_reducible refine (C5.out _ X.out.bel (by first | assumption | omega)).mono ?_) | (with_reducible refine (C6.out _ X.out.bel (by first | assumption | omega)).mono ?_) | (with_reducible refine (C7.out _ X.out.bel (by first | assumption | omega)).mono ?_) | (with_reducible refine (C8.out _ X.out.bel (by first | assumption | omega)).mono ?_) | (with_reducible refine (C9.out _ X.out.bel (by first | assumption | omega)).mono ?_) | (with_reducible refine (C10.out _ X.out.bel (by first | assumption | omega)).mono ?_) | (with_reducible refine (C11.out _ X.out.bel (by first | assumption | omega)).mono ?_) | (with_reducible refine (C12.out _ X.out.bel (by first | assumption | omega)).mono ?_) | (with_reducible refine (C13.out _ X.out.bel (by first | assumption | omega)).mono ?_) | (with_reducible refine (C14.out _ X.out.bel (by first | assumption | omega)).mono ?_) | (with_reducible refine (C15.out _ X.out.bel (by first | assumption | omega)).mono ?_) | (with_reducible refine (C16.out _ X.out.bel (by first | assumption | omega)).mono ?_));rintro e u ⟨rfl,hb9⟩;have X0:=X.out.next hb9;clear hb9) | (with_reducible refine an X.out (fun V X0=>?_)) | (with_reducible refine sf2 X.out (by repeat (with_reducible first | exact At.here | exact At.last | apply At.there | apply At.left)) (fun V X0=>?_)) | (with_reducible refine sf4 X.out (by repeat (with_reducible first | exact At.here | exact At.last | apply At.there | apply At.left)) (fun V X0=>?_)) | (with_reducible refine sf9 X.out (by repeat (with_reducible first | exact At.here | exact At.last | apply At.there | apply At.left)) (fun V X0=>?_)) | (with_reducible refine sf12 X.out (by repeat (with_reducible first | exact At.here | exact At.last | apply At.there | apply At.left)) (fun V X0=>?_)) | (with_reducible refine sf1 X.out (by repeat (with_reducible first | exact At.here | exact At.last | apply At.there | apply At.left)) (fun V X0=>?_)));(try simp only [List.set_cons_zero,List.set_cons_succ,List.cons_append,List.nil_append,List.length_cons,List.length_nil] at X0);replace X:=Lib.hid X0;clear X0;replace F:=X.out.facts;simp only [Facts,cellsAt,List.take_succ_cons,List.take_zero,Nat.reduceAdd,and_true,List.set_cons_succ,List.set_cons_zero,List.cons_append,List.nil_append] at F)
  | exact U1.out | exact U2.out | exact U3.out | exact U4.out | exact U5.out | exact U6.out
  | (with_reducible refine late_in X.out rfl ?_ ?_
     kernel_rfl
     intro V X0
     replace X:=Lib.hid X0
     clear X0 F
     repeat' (first
      | ((first
        | refine tkF (oi:=⟨some _,_,_,_,_,_⟩) rfl rfl (by kernel_rfl) (fun _ _ _ h=>h) (Or.inl ⟨by rfl,by intro w' _;first | (go_simp;done) | (go_simp;with_reducible rfl)⟩) ?_
        | refine tkN (oi:=⟨some _,_,_,_,_,_⟩) rfl rfl (by decide +kernel) (fun _ _ _ h=>h) (by first | exact X.out.bare | exact X.out.init | exact X.out.init2 | exact X.out.init3) (Or.inl ⟨by rfl,by intro w' hSw;have F:=hSw.facts;simp only [Facts,cellsAt,List.take_succ_cons,List.take_zero,Nat.reduceAdd,and_true,List.set_cons_succ,List.set_cons_zero,List.cons_append,List.nil_append] at F;first | (go_simp;done) | (go_simp;with_reducible rfl)⟩) ?_
        | refine tkG (oi:=⟨_,_,_,_,_,_⟩) rfl rfl (by kernel_rfl) (fun _ _ _ h=>h) (by rfl) ?_)
         (try simp only [Act.put,seti,set0,setS]))
      | ((first | refine one (o := ⟨_, _, _, _, _, _⟩) rfl rfl (by kernel_rfl) (fun K hK => ?_) | refine two (o := ⟨_, _, _, _, _, _⟩) (o' := ⟨_, _, _, _, _, _⟩) rfl rfl rfl (by kernel_rfl) (fun K hK => ?_) (fun K hK => ?_) | refine three (o := ⟨_, _, _, _, _, _⟩) (o' := ⟨_, _, _, _, _, _⟩) (o'' := ⟨_, _, _, _, _, _⟩) rfl rfl rfl rfl (by kernel_rfl) (fun K hK => ?_) (fun K hK => ?_) (fun K hK => ?_) | refine four (o := ⟨_, _, _, _, _, _⟩) (o1 := ⟨_, _, _, _, _, _⟩) (o2 := ⟨_, _, _, _, _, _⟩) (o3 := ⟨_, _, _, _, _, _⟩) rfl rfl rfl rfl rfl (by kernel_rfl) (fun K hK => ?_) (fun K hK => ?_) (fun K hK => ?_) (fun K hK => ?_))
         all_goals (have F:=X.out.facts;simp only [Facts,cellsAt,List.take_succ_cons,List.take_zero,Nat.reduceAdd,and_true,List.set_cons_succ,List.set_cons_zero,List.cons_append,List.nil_append] at F;go_simp;clear F;first
          | exact Y1.out | exact Y2.out
          | (((with_reducible refine (show Calls _ _ _ _ _ from ?_));first | (with_reducible refine (C1.out _ X.out.bel).mono ?_) | (with_reducible refine (C2.out _ X.out.bel).mono ?_) | (with_reducible refine (C3.out _ X.out.bel).mono ?_) | (with_reducible refine (C4.out _ X.out.bel).mono ?_) | (with_reducible refine (C5.out _ X.out.bel).mono ?_) | (with_reducible refine (C6.out _ X.out.bel).mono ?_) | (with_reducible refine (C7.out _ X.out.bel).mono ?_) | (with_reducible refine (C8.out _ X.out.bel).mono ?_) | (with_reducible refine (C9.out _ X.out.bel).mono ?_) | (with_reducible refine (C10.out _ X.out.bel).mono ?_) | (with_reducible refine (C11.out _ X.out.bel).mono ?_) | (with_reducible refine (C12.out _ X.out.bel).mono ?_) | (with_reducible refine (C13.out _ X.out.bel).mono ?_) | (with_reducible refine (C14.out _ X.out.bel).mono ?_) | (with_reducible refine (C15.out _ X.out.bel).mono ?_) | (with_reducible refine (C16.out _ X.out.bel).mono ?_) | (with_reducible refine (C1.out _ X.out.bel (by first | assumption | omega)).mono ?_) | (with_reducible refine (C2.out _ X.out.bel (by first | assumption | omega)).mono ?_) | (with_reducible refine (C3.out _ X.out.bel (by first | assumption | omega)).mono ?_) | (with_reducible refine (C4.out _ X.out.bel (by first | assumption | omega)).mono ?_) | (with_reducible refine (C5.out _ X.out.bel (by first | assumption | omega)).mono ?_) | (with_reducible refine (C6.out _ X.out.bel (by first | assumption | omega)).mono ?_) | (with_reducible refine (C7.out _ X.out.bel (by first | assumption | omega)).mono ?_) | (with_reducible refine (C8.out _ X.out.bel (by first | assumption | omega)).mono ?_) | (with_reducible refine (C9.out _ X.out.bel (by first | assumption | omega)).mono ?_) | (with_reducible refine (C10.out _ X.out.bel (by first | assumption | omega)).mono ?_) | (with_reducible refine (C11.out _ X.out.bel (by first | assumption | omega)).mono ?_) | (with_reducible refine (C12.out _ X.out.bel (by first | assumption | omega)).mono ?_) | (with_reducible refine (C13.out _ X.out.bel (by first | assumption | omega)).mono ?_) | (with_reducible refine (C14.out _ X.out.bel (by first | assumption | omega)).mono ?_) | (with_reducible refine (C15.out _ X.out.bel (by first | assumption | omega)).mono ?_) | (with_reducible refine (C16.out _ X.out.bel (by first | assumption | omega)).mono ?_));rintro e u ⟨rfl,hb9⟩;(try go_wp2_with fail);refine kx hK (X.out.next hb9) ?_ ?_;(intro V X;first | exact Or.inr fun _=>X.bare | exact Or.inr fun _=>X.init | exact Or.inl (by decide) | exact Or.inr fun _=>X.init2 | exact Or.inr fun _=>X.init3);intro V X0;clear hb9)
          | ((with_reducible refine ka hK X.out ?_ ?_);(intro V X;first | exact Or.inr fun _=>X.bare | exact Or.inr fun _=>X.init | exact Or.inl (by decide) | exact Or.inr fun _=>X.init2 | exact Or.inr fun _=>X.init3);intro V X0)
          | ((with_reducible refine kf1 hK X.out (by repeat (with_reducible first | exact At.here | exact At.last | apply At.there | apply At.left)) ?_ ?_);(intro V X;exact Or.inl (by decide));intro V X0;(try simp only [List.set_cons_zero,List.set_cons_succ,List.cons_append,List.nil_append,List.length_cons,List.length_nil] at X0))
          | ((with_reducible refine kf2 hK X.out (by repeat (with_reducible first | exact At.here | exact At.last | apply At.there | apply At.left)) ?_ ?_);(intro V X;exact Or.inl (by decide));intro V X0;(try simp only [List.set_cons_zero,List.set_cons_succ,List.cons_append,List.nil_append,List.length_cons,List.length_nil] at X0))
          | ((with_reducible refine kf4 hK X.out (by repeat (with_reducible first | exact At.here | exact At.last | apply At.there | apply At.left)) ?_ ?_);(intro V X;exact Or.inl (by decide));intro V X0;(try simp only [List.set_cons_zero,List.set_cons_succ,List.cons_append,List.nil_append,List.length_cons,List.length_nil] at X0))
          | ((with_reducible refine kf9 hK X.out (by repeat (with_reducible first | exact At.here | exact At.last | apply At.there | apply At.left)) ?_ ?_);(intro V X;exact Or.inl (by decide));intro V X0;(try simp only [List.set_cons_zero,List.set_cons_succ,List.cons_append,List.nil_append,List.length_cons,List.length_nil] at X0))
          | ((with_reducible refine kf12 hK X.out (by repeat (with_reducible first | exact At.here | exact At.last | apply At.there | apply At.left)) ?_ ?_);(intro V X;exact Or.inl (by decide));intro V X0;(try simp only [List.set_cons_zero,List.set_cons_succ,List.cons_append,List.nil_append,List.length_cons,List.length_nil] at X0))
          | ((with_reducible refine hK.out _ _ (Or.inr fun h=>h) ?_);have X0:=X.out)
          | ((with_reducible refine kx hK X.out ?_ ?_);(intro V X;first | exact Or.inr fun _=>X.bare | exact Or.inr fun _=>X.init | exact Or.inl (by decide) | exact Or.inr fun _=>X.init2 | exact Or.inr fun _=>X.init3);intro V X0))
         all_goals (clear hK K;replace X:=Lib.hid X0;clear X0;(try simp only [Act.put,seti,set0,setS])))
      | refine done rfl (by kernel_rfl) ?_ _)
     all_goals (have F:=X.out.facts;simp only [Facts,cellsAt,List.take_succ_cons,List.take_zero,Nat.reduceAdd,and_true,List.set_cons_succ,List.set_cons_zero,List.cons_append,List.nil_append] at F))
  | ((with_reducible refine (show Met _ _ _ from ?_));go_meet;subst hLL;first | exact ⟨_,rfl,X.out⟩ | exact ⟨_,_,rfl,rfl,X.out⟩ | exact M1.out)
  | ((with_reducible refine (show bodyPost _ _ _ _ _ _ from ?_));first | exact E1.out | exact E2.out | exact E3.out | exact E4.out | (go_ret;exact ⟨rfl,X.out.bel⟩) | (go_ret;refine ⟨?_,X.out.bel⟩;first | (rw [P1.out (by assumption) (by assumption) (by assumption)];rfl;done) | (rw [P1.out (by assumption) (by assumption)];rfl;done) | (rw [P1.out (by assumption)];rfl;done) | (rw [P2.out (by assumption) (by assumption) (by assumption)];rfl;done) | (rw [P2.out (by assumption) (by assumption)];rfl;done) | (rw [P2.out (by assumption)];rfl;done) | (rw [P3.out (by assumption) (by assumption) (by assumption)];rfl;done) | (rw [P3.out (by assumption) (by assumption)];rfl;done) | (rw [P3.out (by assumption)];rfl;done) | (rw [P4.out (by assumption) (by assumption) (by assumption)];rfl;done) | (rw [P4.out (by assumption) (by assumption)];rfl;done) | (rw [P4.out (by assumption)];rfl;done)) | exact bodyPost_ret (by simp [results,RS.out,go_sem,F]) rfl ⟨rfl,X.out.bel⟩))):p:=h
theorem wk0 {p:Prop} (h:p:=by
 go_upto_region 1 with fail
 first | (with_reducible refine gs6 (M:=fun W=>Code.wp _ _ _ _ W) (fun V X0=>?_)) | (with_reducible refine gs5 (M:=fun W=>Code.wp _ _ _ _ W) (fun V X0=>?_)) | (with_reducible refine gs4 (M:=fun W=>Code.wp _ _ _ _ W) (fun V X0=>?_)) | (with_reducible refine gs3 (M:=fun W=>Code.wp _ _ _ _ W) (fun V X0=>?_)) | (with_reducible refine gs2 (M:=fun W=>Code.wp _ _ _ _ W) (fun V X0=>?_)) | (with_reducible refine gs1 (M:=fun W=>Code.wp _ _ _ _ W) (fun V X0=>?_)) | (with_reducible refine gs0 (M:=fun W=>Code.wp _ _ _ _ W) (fun V X0=>?_))
 have X:=Lib.hid X0
 clear X0
 have F:=X.out.facts
 simp only [Facts,cellsAt,List.take_succ_cons,List.take_zero,Nat.reduceAdd,and_true,List.set_cons_succ,List.set_cons_zero,List.cons_append,List.nil_append] at F
 exact wk):p:=h
theorem wkc {p:Prop} (h:p:=by
 (try ((first | obtain ⟨g,g',g'',rfl,rfl,rfl,hX⟩:=hcut | obtain ⟨g,g',rfl,rfl,hX⟩:=hcut | obtain ⟨g,rfl,hX⟩:=hcut);subst hLL;(try simp only [List.cons_append,List.nil_append] at hX);replace X:=Lib.hid hX;clear hX;replace F:=X.out.facts;simp only [Facts,cellsAt,List.take_succ_cons,List.take_zero,Nat.reduceAdd,and_true,List.set_cons_succ,List.set_cons_zero,List.cons_append,List.nil_append] at F))
 exact wk):p:=h
end Go.Proofs.YtpnokfgplnmjpaaGreatDoor


namespace Go.Proofs.YtpnokfgplnmjpaaGreatDoor
open Go.RowKit
attribute [local go_sem ↓] Go.wp_at_zero Go.wp_at_succ

theorem size_pos {n:ByteArray} (h:n≠⟨#[]⟩):0<n.size:=by
 rcases Nat.eq_zero_or_pos n.size with h1 | h1
 · exact absurd (ext_bytes (t:=⟨#[]⟩) h1 (fun i h2 _=>by omega)) h
 · exact h1
theorem Rq.ne {q:Rat} {b:Bool} {m k:ByteArray} (h:Rq q b m k) (h0:q≠0):m≠⟨#[]⟩:=by
 intro e
 have h1:=h.mag.2
 rw [e] at h1
 have h2:¬q.num.natAbs≠0:=fun h3=>mag_no_nil h3 h1.symm
 exact h0 (Rat.num_eq_zero.1 (by omega))

set_option maxHeartbeats 8000000 in
set_option maxRecDepth 100000 in
theorem isRat_yes (b1 s1:Bool) (m1 k1:ByteArray) (w:World) :
  Calls Tryz.prog 70 #[.agg #[.bool b1,.string m1,.bool false,.string k1,.bool false,.string ⟨#[]⟩,.bool false,.string ⟨#[]⟩,.bool s1]] w (RetB w (.bool true)):=by
 go_enter Tryz.func70,Tryz.ntmps70
 exact wk0

set_option maxHeartbeats 8000000 in
set_option maxRecDepth 100000 in
theorem isRat_any (b1 c1 s1:Bool) (m1 k1 n1 l1:ByteArray) (hn:n1≠⟨#[]⟩) (w:World) :
  Calls Tryz.prog 70 #[.agg #[.bool b1,.string m1,.bool false,.string k1,.bool c1,.string n1,.bool false,.string l1,.bool s1]] w (RetB w (.bool false)):=by
 obtain ⟨h1,h2⟩:=str_ne hn
 have h3:=empty_no (size_pos hn)
 clear hn
 go_enter Tryz.func70,Tryz.ntmps70
 exact wk0

theorem isRat_no {b1 c1 s1:Bool} {m1 k1 n1 l1:ByteArray} {x:Sg.Rl} (h:Rv x b1 m1 k1 c1 n1 l1 s1) (h0:x.a≠0) (w:World):Calls Tryz.prog 70 #[.agg #[.bool b1,.string m1,.bool false,.string k1,.bool c1,.string n1,.bool false,.string l1,.bool s1]] w (RetB w (.bool false)):=isRat_any _ _ _ _ _ _ _ (h.r.ne h0) w
theorem isRat_f {b1 c1 s1:Bool} {m1 k1 n1 l1:ByteArray} {x:Sg.Rl} (h:Rv x b1 m1 k1 c1 n1 l1 s1) (w:World):Calls Tryz.prog 70 #[.agg #[.bool b1,.string m1,.bool false,.string k1,.bool c1,.string n1,.bool false,.string l1,.bool s1]] w (RetB w (.bool (decide (x.a=0)))):=by
 by_cases h0:x.a=0
 · rw [decide_eq_true h0]
   obtain ⟨rfl,rfl,rfl⟩:=h.r.nought.1 h0
   exact isRat_yes _ _ _ _ w
 · rw [decide_eq_false h0]
   exact isRat_no h h0 w

set_option maxHeartbeats 8000000 in
set_option maxRecDepth 100000 in
theorem fromRat_any (b1:Bool) (m1 k1:ByteArray) (w:World) :
  Calls Tryz.prog 25 #[.agg #[.bool b1,.string m1,.bool false,.string k1]] w (RetB w (.agg #[.bool b1,.string m1,.bool false,.string k1,.bool false,.string ⟨#[]⟩,.bool false,.string ⟨#[]⟩,.bool false])):=by
 have RS:=Lib.hid Tryz.results25
 go_enter Tryz.func25,Tryz.ntmps25
 exact wk0

set_option maxHeartbeats 8000000 in
set_option maxRecDepth 100000 in
theorem of_any (b1:Bool) (m1 k1:ByteArray) (w:World) :
  Calls Tryz.prog 20 #[.agg #[.bool b1,.string m1,.bool false,.string k1]] w (RetB w (.agg #[.bool b1,.string m1,.bool false,.string k1,.bool false,.string ⟨#[]⟩,.bool false,.string ⟨#[]⟩,.bool false])):=by
 have RS:=Lib.hid Tryz.results20
 go_enter Tryz.func20,Tryz.ntmps20
 exact wk0

set_option maxHeartbeats 8000000 in
set_option maxRecDepth 100000 in
theorem rootSign_any (b1 c1:Bool) (m1 k1 n1 l1:ByteArray) (s1:Bool) {s:Int} (hs:s=if s1 then -1 else 1) (w:World) :
  Calls Tryz.prog 88 #[.agg #[.bool b1,.string m1,.bool false,.string k1,.bool c1,.string n1,.bool false,.string l1,.bool s1]] w (RetB w (.int .i64 s)):=by
 have P1:=Lib.hid (show s1=true→s=-1 from fun h=>by rw [hs,if_pos h])
 have P2:=Lib.hid (show s1=false→s=1 from fun h=>by rw [hs,h];rfl)
 clear hs
 go_enter Tryz.func88,Tryz.ntmps88
 exact wk0

theorem rootSign_f {b1 c1 s1:Bool} {m1 k1 n1 l1:ByteArray} {x:Sg.Rl} (h:Rv x b1 m1 k1 c1 n1 l1 s1) (hs:x.s=1∨x.s=-1) (w:World):Calls Tryz.prog 88 #[.agg #[.bool b1,.string m1,.bool false,.string k1,.bool c1,.string n1,.bool false,.string l1,.bool s1]] w (RetB w (.int .i64 x.s)) :=
 rootSign_any _ _ _ _ _ _ _ (by rw [h.neg];rcases hs with e | e<;>rw [e]<;>decide) w

set_option maxHeartbeats 8000000 in
set_option maxRecDepth 100000 in
theorem side_any (b1 c1:Bool) (m1 k1 n1 l1:ByteArray) (s1:Bool) {s:Int} (hs:s=if s1 then -1 else 1) (w:World) :
  Calls Tryz.prog 85 #[.agg #[.bool b1,.string m1,.bool false,.string k1,.bool c1,.string n1,.bool false,.string l1,.bool s1]] w (RetB w (.int .i64 s)):=by
 have P1:=Lib.hid (show s1=true→s=-1 from fun h=>by rw [hs,if_pos h])
 have P2:=Lib.hid (show s1=false→s=1 from fun h=>by rw [hs,h];rfl)
 clear hs
 go_enter Tryz.func85,Tryz.ntmps85
 exact wk0

theorem side_f {b1 c1 s1:Bool} {m1 k1 n1 l1:ByteArray} {x:Sg.Rl} (h:Rv x b1 m1 k1 c1 n1 l1 s1) (hs:x.s=1∨x.s=-1) (w:World):Calls Tryz.prog 85 #[.agg #[.bool b1,.string m1,.bool false,.string k1,.bool c1,.string n1,.bool false,.string l1,.bool s1]] w (RetB w (.int .i64 x.s)) :=
 side_any _ _ _ _ _ _ _ (by rw [h.neg];rcases hs with e | e<;>rw [e]<;>decide) w

set_option maxHeartbeats 8000000 in
set_option maxRecDepth 100000 in
theorem whole_f {x:Int} {b:Bool} {m:ByteArray} (hx:enc x=.agg #[.bool b,.string m]) (x1:-9223372036854775808≤x) (x2:x≤9223372036854775807) (w:World) :
  Calls Tryz.prog 21 #[.int .i64 x] w (RetB w (.agg #[.bool b,.string m,.bool false,.string ⟨#[]⟩])):=by
 have C1:=Lib.hid (fun V (_:Below w.heap.size w V)=>show Calls Tryz.prog 74 #[.int .i64 x] V (RetB V (.agg #[.bool b,.string m])) from by have h:=rint_any x x1 x2 V;unfold RetZ at h;rw [hx] at h;exact h)
 clear hx x1 x2
 have RS:=Lib.hid Tryz.results21
 go_enter Tryz.func21,Tryz.ntmps21
 exact wk0

set_option maxHeartbeats 8000000 in
set_option maxRecDepth 100000 in
theorem zero_any  (w:World) :
  Calls Tryz.prog 24 #[] w (RetB w (.agg #[.bool false,.string ⟨#[]⟩,.bool false,.string ⟨#[]⟩])):=by
 have RS:=Lib.hid Tryz.results24
 go_enter Tryz.func24,Tryz.ntmps24
 exact wk0

set_option maxHeartbeats 8000000 in
set_option maxRecDepth 100000 in
theorem one_any  (w:World) :
  Calls Tryz.prog 84 #[] w (RetB w (.agg #[.bool false,.string ⟨#[1]⟩,.bool false,.string ⟨#[]⟩])):=by
 have C1:=kn w (whole_f (x:=1) (b:=false) (m:=⟨#[1]⟩) (by rw [←mag_one];exact enc_mag 1) (by omega) (by omega))
 have RS:=Lib.hid Tryz.results84
 go_enter Tryz.func84,Tryz.ntmps84
 exact wk0

set_option maxHeartbeats 8000000 in
set_option maxRecDepth 100000 in
theorem ratio_f {p q:Rat} {b1 b2 b3:Bool} {m1 k1 m2 k2 m3 k3:ByteArray} (hp:Rq p b1 m1 k1) (hq:Rq q b2 m2 k2) (hr:Rq (p / q) b3 m3 k3) (h0:q.num≠0) (zp:Sz 10000 p) (zq:Sz 10000 q) (w:World) (hE:Env w) :
  Calls Tryz.prog 79 #[.agg #[.bool b1,.string m1,.bool false,.string k1],.agg #[.bool b2,.string m2,.bool false,.string k2]] w (RetB w (.agg #[.bool b3,.string m3,.bool false,.string k3])):=by
 have C1:=ke hE (div_z hp hq hr h0 zp zq)
 have RS:=Lib.hid Tryz.results79
 clear hp hq hr h0 zp zq hE
 go_enter Tryz.func79,Tryz.ntmps79
 exact wk0
end Go.Proofs.YtpnokfgplnmjpaaGreatDoor


namespace Go.Proofs.YtpnokfgplnmjpaaGreatDoor
open Go.RowKit
attribute [local go_sem ↓] Go.wp_at_zero Go.wp_at_succ

theorem root_yes_z {q:Rat} {b:Bool} {m k:ByteArray} (h:Rq q b m k) (zq:Sz 9000 q) (hs:Sg.Sq q) {b2:Bool} {m2 k2:ByteArray} (hr:Rq (Sg.rt q) b2 m2 k2) :
  (∀ V,Env V→Calls Tryz.prog 72 #[.agg #[.bool b,.string m,.bool false,.string k]] V (RetB V (.tuple #[.agg #[.bool b2,.string m2,.bool false,.string k2],.bool true]))) ∧
   (∀ V,Calls Tryz.prog 68 #[.agg #[.bool b,.string m,.bool false,.string k]] V (RetB V (.tuple #[.agg #[.bool b2,.string m2,.bool false,.string k2],.bool true]))):=by
 obtain ⟨z,hz,e⟩:=hs
 rw [Sg.rt_eq hz e] at hr
 obtain ⟨s1,s2⟩:=sq_parts z
 rw [e] at s1 s2
 have hn:¬z.num<0:=by rw [num_neg_iff];grind
 obtain ⟨e1,e2⟩:=hr.mag
 rw [decide_eq_false hn] at e1
 have e3:=hr.den
 subst e1 e2 e3
 have hm:=h.mag
 have hb:b=false:=by rw [hm.1,s1];exact decide_eq_false (by omega)
 subst hb
 have t1:=zq.1
 have t2:=zq.2
 have n1:q.num.natAbs=z.num.natAbs*z.num.natAbs:=by rw [s1,Int.natAbs_natCast]
 refine ⟨fun V hV=>ratRoot_yes h s1 s2 (by rw [←n1];exact Nat.le_trans (mag_size_le t1) (by omega)) (by rw [←s2];exact Nat.le_trans (mag_size_le t2) (by omega)) V hV,fun V=>?_⟩
 have r1:rt q.num.natAbs=z.num.natAbs:=by rw [n1,rt_square]
 have r2:rt q.den=z.den:=by rw [s2,rt_square]
 have g:=rRoot_yes (mR:=mag z.num.natAbs) (kR:=dm z.den) h (by rw [r1,n1]) (by rw [r2,s2]) (by rw [r1,r2];exact rq_nat z.den_pos z.reduced) (by rw [hm.2];exact Nat.le_trans (mag_size_le t1) (by omega)) (Nat.le_trans (mag_size_le t2) (by omega)) V
 exact g

theorem root_no_z {q:Rat} {b:Bool} {m k:ByteArray} (h:Rq q b m k) (zq:Sz 9000 q) (hs:¬Sg.Sq q) :
  (∀ V,Env V→Calls Tryz.prog 72 #[.agg #[.bool b,.string m,.bool false,.string k]] V (RetB V (.tuple #[.agg #[.bool false,.string ⟨#[]⟩,.bool false,.string ⟨#[]⟩],.bool false]))) ∧
   (∀ V,Calls Tryz.prog 68 #[.agg #[.bool b,.string m,.bool false,.string k]] V (RetB V (.tuple #[.agg #[.bool false,.string ⟨#[]⟩,.bool false,.string ⟨#[]⟩],.bool false]))):=by
 have t1:m.size≤9000:=(by rw [h.mag.2];exact Nat.le_trans (mag_size_le zq.1) (by omega))
 have t2:(mag q.den).size≤9000:=Nat.le_trans (mag_size_le zq.2) (by omega)
 cases b
 · have hn:¬q.num<0:=of_decide_eq_false h.mag.1.symm
   have hm:=h.mag.2
   by_cases h1:rt q.num.natAbs*rt q.num.natAbs=q.num.natAbs
   · by_cases h2:rt q.den*rt q.den=q.den
     · exfalso
       refine hs ⟨mkRat (rt q.num.natAbs) (rt q.den),?_,?_⟩
       · rw [←Rat.num_nonneg,(mkRat_parts _ (Nat.pos_iff_ne_zero.1 (rt_pos q.den_pos))).1]
         exact Int.ediv_nonneg (by omega) (by omega)
       · obtain ⟨p1,p2⟩:=mkRat_parts ((rt q.num.natAbs:Nat):Int) (Nat.pos_iff_ne_zero.1 (rt_pos q.den_pos))
         have hc:=root_cop h1 h2 q.reduced
         rw [Int.natAbs_natCast,hc] at p1 p2
         rw [Int.natCast_one,Int.ediv_one] at p1
         rw [Nat.div_one] at p2
         obtain ⟨s1,s2⟩:=sq_parts (mkRat ((rt q.num.natAbs:Nat):Int) (rt q.den))
         rw [p1,Int.natAbs_natCast,h1] at s1
         rw [p2,h2] at s2
         refine Rat.ext ?_ s2
         rw [s1]
         omega
     · exact ⟨fun V hV=>ratRoot_no2 h h1.symm h2 (by rw [h1,←hm];omega) (by omega) V hV,fun V=>rRoot_no2 h h1 h2 t1 t2 V⟩
   · exact ⟨fun V _=>ratRoot_no1 h (.inr h1) (by omega) V,fun V=>rRoot_no1 h h1 t1 t2 V⟩
 · have hn:q.num<0:=of_decide_eq_true h.mag.1.symm
   exact ⟨fun V _=>ratRoot_no1 h (.inl hn) (by omega) V,fun V=>rRoot_neg h t1 t2 V⟩

theorem Sz.root {n:Nat} {q:Rat} (h:Sz (n+1) q):Sz (n+1) (Sg.rt q):=by
 by_cases hs:Sg.Sq q
 · obtain ⟨z,hz,e⟩:=hs
   rw [Sg.rt_eq hz e]
   obtain ⟨s1,s2⟩:=sq_parts z
   rw [e] at s1 s2
   have t1:=h.1
   have t2:=h.2
   rw [s1,Int.natAbs_natCast] at t1
   rw [s2] at t2
   exact ⟨Nat.lt_of_le_of_lt (Nat.le_mul_self _) t1,Nat.lt_of_le_of_lt (Nat.le_mul_self _) t2⟩
 · unfold Sg.rt
   rw [dif_neg hs]
   exact Sz.zero n
end Go.Proofs.YtpnokfgplnmjpaaGreatDoor


namespace Go.Proofs.YtpnokfgplnmjpaaGreatDoor
open Go.RowKit
attribute [local go_sem ↓] Go.wp_at_zero Go.wp_at_succ

theorem sgq_abs (q:Rat):Sg.sgq q=-1∨Sg.sgq q=0∨Sg.sgq q=1:=by
 rcases Sg.sgq_three q with ⟨-,e⟩ | ⟨-,e⟩ | ⟨-,e⟩<;>rw [e]<;>simp
theorem wrap_pm {c:Int} (h:c=-1∨c=0∨c=1):IntKind.i64.wrap c=c∧IntKind.i64.wrap (-c)=-c:=by
 rcases h with rfl | rfl | rfl<;>exact ⟨by decide,by decide⟩
theorem wrap_ts {t c:Int} (ht:t=1∨t=-1) (h:c=-1∨c=0∨c=1):IntKind.i64.wrap (t*c)=t*c:=by
 rcases ht with rfl | rfl<;>rcases h with rfl | rfl | rfl<;>decide
theorem wrap_st {t c:Int} (ht:t=1∨t=-1) (h:c=-1∨c=0∨c=1):IntKind.i64.wrap (c*t)=c*t:=by rw [Int.mul_comm];exact wrap_ts ht h
theorem sos_abs (p:Rat) {s:Int} (hs:s=1∨s=-1) (r:Rat):Sg.sos p s r=-1∨Sg.sos p s r=0∨Sg.sos p s r=1:=by
 unfold Sg.sos
 split
 · omega
 · rcases sgq_abs (r-p*p) with e | e | e<;>rcases hs with rfl | rfl<;>rw [e]<;>simp

set_option maxHeartbeats 8000000 in
set_option maxRecDepth 100000 in
theorem sos_f {p r:Rat} {b1 b2:Bool} {m1 k1 m2 k2:ByteArray} (hp:Rq p b1 m1 k1) (hr:Rq r b2 m2 k2) (zp:Sz 4000 p) (zr:Sz 9000 r) {s:Int} (hs:s=1∨s=-1) (w:World) (hE:Env w) :
  Calls Tryz.prog 87 #[.agg #[.bool b1,.string m1,.bool false,.string k1],.int .i64 s,.agg #[.bool b2,.string m2,.bool false,.string k2]] w (RetB w (.int .i64 (Sg.sos p s r))):=by
 obtain ⟨b3,m3,k3,h3⟩:=Rq.some_ (p*p)
 have P1:=Lib.hid (show (Sg.sgq p != -s)=true→Sg.sos p s r=s from fun h=>by unfold Sg.sos;rw [if_pos (by simpa using h)])
 have P2:=Lib.hid (show (Sg.sgq p != -s)=false→Sg.sos p s r=s*Sg.sgq (r-p*p) from fun h=>by unfold Sg.sos;rw [if_neg (by simpa using h)])
 have hw:=wrap_ts hs (sgq_abs (r-p*p))
 have C1:=kn w (sign_z hp)
 have C2:=ke hE (mul_z hp hp h3 (zp.up (by omega)) (zp.up (by omega)))
 have C3:=ke hE (cmp_z hr h3 (zr.up (by omega)) ((zp.mul zp).up (by omega)))
 clear hp hr zp zr h3 hE
 go_enter Tryz.func87,Tryz.ntmps87
 exact wk0

theorem cmp_rat0 {x:Sg.Rl} (ok:x.Ok) (h0:x.a=0) (r:Rat):Sg.cmpX x (Sg.Rl.of r)=Sg.sgq (x.p-r):=by
 rcases Sg.ok_cases ok with ⟨_,h2⟩ | ⟨h2,-⟩
 · rw [show x=Sg.Rl.of x.p from Sg.Rl.ext' rfl h0 h2];exact Sg.cmp_of _ _
 · grind
theorem ok_pos {x:Sg.Rl} (ok:x.Ok) (h0:¬x.a=0):0<x.a:=by
 rcases Sg.ok_cases ok with ⟨h1,-⟩ | ⟨h1,-⟩
 · exact absurd h1 h0
 · exact h1

set_option maxHeartbeats 8000000 in
set_option maxRecDepth 100000 in
theorem crat_f {x:Sg.Rl} {r:Rat} {b1 c1 s1:Bool} {m1 k1 n1 l1:ByteArray} {b2:Bool} {m2 k2:ByteArray} (hx:Rv x b1 m1 k1 c1 n1 l1 s1) (ok:x.Ok) (hr:Rq r b2 m2 k2) (zx:Rz 1500 x) (zr:Sz 1500 r) (w:World) (hE:Env w) :
  Calls Tryz.prog 38 #[.agg #[.bool b1,.string m1,.bool false,.string k1,.bool c1,.string n1,.bool false,.string l1,.bool s1],.agg #[.bool b2,.string m2,.bool false,.string k2]] w (RetB w (.int .i64 (Sg.cmpX x (Sg.Rl.of r)))):=by
 obtain ⟨b3,m3,k3,h3⟩:=Rq.some_ (x.p-r)
 have P1:=Lib.hid (show x.a=0→Sg.cmpX x (Sg.Rl.of r)=Sg.sgq (x.p-r) from fun h=>cmp_rat0 ok h r)
 have P2:=Lib.hid (show ¬x.a=0→Sg.cmpX x (Sg.Rl.of r)=Sg.sos (x.p-r) x.s x.a from fun h=>Sg.cmp_root (ok_pos ok h) r)
 have C1:=kn w (isRat_f hx)
 have C2:=ke hE (cmp_z hx.p hr (zx.p.up (by omega)) (zr.up (by omega)))
 have C3:=ke hE (sub_z hx.p hr h3 (zx.p.up (by omega)) (zr.up (by omega)))
 have C4:=kn w (rootSign_f hx ok.sg)
 have C5:=ke hE (sos_f h3 hx.r ((zx.p.sub zr).up (by omega)) (zx.r.up (by omega)) ok.sg)
 clear hx ok hr zx zr h3 hE
 go_enter Tryz.func38,Tryz.ntmps38
 exact wk0

set_option maxHeartbeats 8000000 in
set_option maxRecDepth 100000 in
theorem rsgn_f {x:Sg.Rl} {b1 c1 s1:Bool} {m1 k1 n1 l1:ByteArray} (hx:Rv x b1 m1 k1 c1 n1 l1 s1) (ok:x.Ok) (zx:Rz 1500 x) (w:World) (hE:Env w) :
  Calls Tryz.prog 39 #[.agg #[.bool b1,.string m1,.bool false,.string k1,.bool c1,.string n1,.bool false,.string l1,.bool s1]] w (RetB w (.int .i64 (Sg.cmpX x (Sg.Rl.of 0)))):=by
 have e0:x.p-0=x.p:=by grind
 have P1:=Lib.hid (show x.a=0→Sg.cmpX x (Sg.Rl.of 0)=Sg.sgq x.p from fun h=>by rw [cmp_rat0 ok h,e0])
 have P2:=Lib.hid (show ¬x.a=0→Sg.cmpX x (Sg.Rl.of 0)=Sg.sos x.p x.s x.a from fun h=>by rw [Sg.cmp_root (ok_pos ok h),e0])
 have C1:=kn w (isRat_f hx)
 have C2:=kn w (sign_z hx.p)
 have C3:=kn w (rootSign_f hx ok.sg)
 have C4:=ke hE (sos_f hx.p hx.r (zx.p.up (by omega)) (zx.r.up (by omega)) ok.sg)
 clear hx ok zx e0 hE
 go_enter Tryz.func39,Tryz.ntmps39
 exact wk0
end Go.Proofs.YtpnokfgplnmjpaaGreatDoor


namespace Go.Proofs.YtpnokfgplnmjpaaGreatDoor
open Go.RowKit
attribute [local go_sem ↓] Go.wp_at_zero Go.wp_at_succ

set_option maxHeartbeats 8000000 in
set_option maxRecDepth 100000 in
theorem norm_f {x:Sg.Rl} {b1 c1 s1:Bool} {m1 k1 n1 l1:ByteArray} {b3:Bool} {m3 k3:ByteArray} (hx:Rv x b1 m1 k1 c1 n1 l1 s1) (hr:Rq (x.p*x.p-x.a) b3 m3 k3) (zx:Rz 2000 x) (w:World) (hE:Env w) :
  Calls Tryz.prog 90 #[.agg #[.bool b1,.string m1,.bool false,.string k1,.bool c1,.string n1,.bool false,.string l1,.bool s1]] w (RetB w (.agg #[.bool b3,.string m3,.bool false,.string k3])):=by
 obtain ⟨b4,m4,k4,h4⟩:=Rq.some_ (x.p*x.p)
 have C1:=ke hE (mul_z hx.p hx.p h4 (zx.p.up (by omega)) (zx.p.up (by omega)))
 have C2:=ke hE (sub_z h4 hx.r hr ((zx.p.mul zx.p).up (by omega)) (zx.r.up (by omega)))
 have RS:=Lib.hid Tryz.results90
 clear hx hr zx h4 hE
 go_enter Tryz.func90,Tryz.ntmps90
 exact wk0

set_option maxHeartbeats 8000000 in
set_option maxRecDepth 100000 in
theorem sum_no {r:Rat} {b1 b2:Bool} {m1 k1 m2 k2:ByteArray} (hr:Rq r b2 m2 k2) (zr:Sz 9000 r) (hn:¬Sg.Sq r) (s:Int) (w:World) (hE:Env w) :
  Calls Tryz.prog 76 #[.agg #[.bool b1,.string m1,.bool false,.string k1],.int .i64 s,.agg #[.bool b2,.string m2,.bool false,.string k2]] w (RetB w (.agg #[.bool b1,.string m1,.bool false,.string k1,.bool b2,.string m2,.bool false,.string k2,.bool (decide (s<0))])):=by
 have C1:=ke hE ((root_no_z hr zr hn).1)
 have RS:=Lib.hid Tryz.results76
 clear hr zr hn hE
 go_enter Tryz.func76,Tryz.ntmps76
 exact wk0

set_option maxHeartbeats 8000000 in
set_option maxRecDepth 100000 in
theorem sum_yes {p r:Rat} {b1 b2 b4:Bool} {m1 k1 m2 k2 m4 k4:ByteArray} (hp:Rq p b1 m1 k1) (hr:Rq r b2 m2 k2) (zp:Sz 9000 p) (zr:Sz (8999+1) r) (hn:Sg.Sq r) (s:Int) (h4:Rq (if s<0 then p-Sg.rt r else p+Sg.rt r) b4 m4 k4) (w:World) (hE:Env w) :
  Calls Tryz.prog 76 #[.agg #[.bool b1,.string m1,.bool false,.string k1],.int .i64 s,.agg #[.bool b2,.string m2,.bool false,.string k2]] w (RetB w (.agg #[.bool b4,.string m4,.bool false,.string k4,.bool false,.string ⟨#[]⟩,.bool false,.string ⟨#[]⟩,.bool false])):=by
 obtain ⟨b3,m3,k3,h3⟩:=Rq.some_ (Sg.rt r)
 have z3:=zr.root
 have C2:=Lib.hid (fun V (hb:Below w.heap.size w V) (h:s<0)=>sub_z hp h3 (by rw [if_pos h] at h4;exact h4) (zp.up (by omega)) (z3.up (by omega)) V (hE.next hb))
 have C3:=Lib.hid (fun V (hb:Below w.heap.size w V) (h:¬s<0)=>add_z hp h3 (by rw [if_neg h] at h4;exact h4) (zp.up (by omega)) (z3.up (by omega)) V (hE.next hb))
 have C1:=ke hE ((root_yes_z hr zr hn h3).1)
 have C4:=kn w (fromRat_any b4 m4 k4)
 have RS:=Lib.hid Tryz.results76
 clear hp hr zp zr hn h3 h4 z3 hE
 go_enter Tryz.func76,Tryz.ntmps76
 exact wk0

theorem sum_f {p r:Rat} {b1 b2:Bool} {m1 k1 m2 k2:ByteArray} {b3 c3 s3:Bool} {m3 k3 n3 l3:ByteArray} (hp:Rq p b1 m1 k1) (hr:Rq r b2 m2 k2) (zp:Sz 9000 p) (zr:Sz 9000 r) (s:Int) (h3:Rv (Sg.sumP p s r) b3 m3 k3 c3 n3 l3 s3) (w:World) (hE:Env w) :
  Calls Tryz.prog 76 #[.agg #[.bool b1,.string m1,.bool false,.string k1],.int .i64 s,.agg #[.bool b2,.string m2,.bool false,.string k2]] w (RetB w (.agg #[.bool b3,.string m3,.bool false,.string k3,.bool c3,.string n3,.bool false,.string l3,.bool s3])):=by
 unfold Sg.sumP at h3
 by_cases hn:Sg.Sq r
 · rw [if_pos hn] at h3
   have e:(if s<0 then (⟨p-Sg.rt r,0,1⟩:Sg.Rl) else ⟨p+Sg.rt r,0,1⟩)=⟨if s<0 then p-Sg.rt r else p+Sg.rt r,0,1⟩:=by split<;>rfl
   rw [e] at h3
   obtain ⟨rfl,rfl,rfl⟩:=h3.r.nought.1 rfl
   obtain rfl:s3=false:=h3.neg
   exact sum_yes hp hr zp zr hn s h3.p w hE
 · rw [if_neg hn] at h3
   obtain ⟨rfl,rfl,rfl⟩:=h3.p.inj hp
   obtain ⟨rfl,rfl,rfl⟩:=h3.r.inj hr
   obtain rfl:s3=decide (s<0):=by
    rw [h3.neg]
    by_cases h:s<0
    · simp [h]
    · simp [h]
   exact sum_no hr zr hn s w hE

set_option maxHeartbeats 8000000 in
set_option maxRecDepth 100000 in
theorem rmk_err {r:Rat} {b1 b2 b3:Bool} {m1 k1 m2 k2 m3 k3:ByteArray} (hr:Rq r b3 m3 k3) (h0:r<0) (w:World) :
  Calls Tryz.prog 27 #[.agg #[.bool b1,.string m1,.bool false,.string k1],.agg #[.bool b2,.string m2,.bool false,.string k2],.agg #[.bool b3,.string m3,.bool false,.string k3]] w (RetB w (.tuple #[.agg #[.bool false,.string ⟨#[]⟩,.bool false,.string ⟨#[]⟩,.bool false,.string ⟨#[]⟩,.bool false,.string ⟨#[]⟩,.bool false],.int .i64 2])):=by
 have hs:=Sg.sgq_neg h0
 have C1:=Lib.hid (fun V (_:Below w.heap.size w V)=>sign_z hr V)
 rw [hs] at C1
 have RS:=Lib.hid Tryz.results27
 clear hr h0 hs
 go_enter Tryz.func27,Tryz.ntmps27
 exact wk0

set_option maxHeartbeats 8000000 in
set_option maxRecDepth 100000 in
theorem rmk_f {p q r:Rat} {b1 b2 b3:Bool} {m1 k1 m2 k2 m3 k3:ByteArray} {b6 c6 s6:Bool} {m6 k6 n6 l6:ByteArray} (hp:Rq p b1 m1 k1) (hq:Rq q b2 m2 k2) (hr:Rq r b3 m3 k3) (h0:¬r<0) (zp:Sz 2000 p) (zq:Sz 2000 q) (zr:Sz 2000 r) (h6:Rv (Sg.mkR p q r) b6 m6 k6 c6 n6 l6 s6) (w:World) (hE:Env w) :
  Calls Tryz.prog 27 #[.agg #[.bool b1,.string m1,.bool false,.string k1],.agg #[.bool b2,.string m2,.bool false,.string k2],.agg #[.bool b3,.string m3,.bool false,.string k3]] w (RetB w (.tuple #[.agg #[.bool b6,.string m6,.bool false,.string k6,.bool c6,.string n6,.bool false,.string l6,.bool s6],.int .i64 0])):=by
 obtain ⟨b4,m4,k4,h4⟩:=Rq.some_ (q*q)
 obtain ⟨b5,m5,k5,h5⟩:=Rq.some_ (q*q*r)
 have z4:=zq.mul zq
 have z5:=z4.mul zr
 rw [←Sg.make_same] at h6
 have hr0:¬Sg.sgq r<0:=by rcases Sg.sgq_three r with ⟨e,_⟩ | ⟨_,e⟩ | ⟨_,e⟩<;>first | exact absurd e h0 | (rw [e];decide)
 have hr1:0≤Sg.sgq r:=by omega
 have C5:=Lib.hid (fun V (hb:Below w.heap.size w V)=>sum_f hp h5 (zp.up (by omega)) (z5.up (by omega)) (Sg.sgq q) h6 V (hE.next hb))
 have C1:=kn w (sign_z hr)
 have C3:=ke hE (mul_z hq hq h4 (zq.up (by omega)) (zq.up (by omega)))
 have C4:=ke hE (mul_z h4 hr h5 (z4.up (by omega)) (zr.up (by omega)))
 have C2:=kn w (sign_z hq)
 have U1:Hid (∀ {p:Prop} (h:p:=by ((fail_if_success (go_not_at_region 3));(fail_if_success (have:=hLL));obtain ⟨LL,hLL⟩:=lexi X.out;go_cut [8] (fun s0 wx=>∃ g0,s0=.pointer (some ⟨g0,0,none⟩)∧Sb w (LL++[(g0,#[.bool b5,.string m5,.bool false,.string k5],25)]) [] wx);all_goals exact wkc)),p):=@fun _ h=>h
 have RS:=Lib.hid Tryz.results27
 clear hp hq hr h0 zp zq zr h6 h4 h5 z4 z5 hE
 go_enter Tryz.func27,Tryz.ntmps27
 exact wk0

set_option maxHeartbeats 8000000 in
set_option maxRecDepth 100000 in
theorem rneg_true {x:Sg.Rl} {b1 c1 b3:Bool} {m1 k1 n1 l1 m3 k3:ByteArray} (hx:Rv x b1 m1 k1 c1 n1 l1 true) (h3:Rq (-x.p) b3 m3 k3) (w:World) :
  Calls Tryz.prog 43 #[.agg #[.bool b1,.string m1,.bool false,.string k1,.bool c1,.string n1,.bool false,.string l1,.bool true]] w (RetB w (.agg #[.bool b3,.string m3,.bool false,.string k3,.bool c1,.string n1,.bool false,.string l1,.bool false])):=by
 have C1:=kn w (ratNeg_f hx.p h3)
 have RS:=Lib.hid Tryz.results43
 clear hx h3
 go_enter Tryz.func43,Tryz.ntmps43
 exact wk0

set_option maxHeartbeats 8000000 in
set_option maxRecDepth 100000 in
theorem rneg_false {x:Sg.Rl} {b1 c1 b3:Bool} {m1 k1 n1 l1 m3 k3:ByteArray} (hx:Rv x b1 m1 k1 c1 n1 l1 false) (h3:Rq (-x.p) b3 m3 k3) (w:World) :
  Calls Tryz.prog 43 #[.agg #[.bool b1,.string m1,.bool false,.string k1,.bool c1,.string n1,.bool false,.string l1,.bool false]] w (RetB w (.agg #[.bool b3,.string m3,.bool false,.string k3,.bool c1,.string n1,.bool false,.string l1,.bool (!decide (x.a=0))])):=by
 have C1:=kn w (ratNeg_f hx.p h3)
 have C2:=kn w (isRat_f hx)
 have RS:=Lib.hid Tryz.results43
 clear hx h3
 go_enter Tryz.func43,Tryz.ntmps43
 exact wk0

theorem rneg_f {x:Sg.Rl} {b1 c1 s1:Bool} {m1 k1 n1 l1:ByteArray} {b3 c3 s3:Bool} {m3 k3 n3 l3:ByteArray} (hx:Rv x b1 m1 k1 c1 n1 l1 s1) (ok:x.Ok) (h3:Rv x.neg b3 m3 k3 c3 n3 l3 s3) (w:World) :
  Calls Tryz.prog 43 #[.agg #[.bool b1,.string m1,.bool false,.string k1,.bool c1,.string n1,.bool false,.string l1,.bool s1]] w (RetB w (.agg #[.bool b3,.string m3,.bool false,.string k3,.bool c3,.string n3,.bool false,.string l3,.bool s3])):=by
 obtain ⟨rfl,rfl,rfl⟩:=h3.r.inj hx.r
 have hs:=h3.neg
 have h1:=hx.neg
 rcases Sg.ok_cases ok with ⟨ha,e⟩ | ⟨ha,-⟩
 · obtain rfl:s3=false:=by rw [hs];show decide ((if x.a=0 then 1 else -x.s)<0)=false;rw [if_pos ha];rfl
   obtain rfl:s1=false:=by rw [h1,e];rfl
   have h:=rneg_false hx h3.p w
   rw [decide_eq_true ha] at h
   exact h
 · have h0:¬x.a=0:=by grind
   have e3:s3=decide (-x.s<0):=by rw [hs];show decide ((if x.a=0 then 1 else -x.s)<0)=_;rw [if_neg h0]
   rcases ok.sg with e | e<;>rw [e] at h1 e3<;>(obtain rfl:=h1)<;>(obtain rfl:=e3)
   · have h:=rneg_false hx h3.p w
     rw [decide_eq_false h0] at h
     exact h
   · exact rneg_true hx h3.p w

set_option maxHeartbeats 8000000 in
set_option maxRecDepth 100000 in
theorem rshift_f {x:Sg.Rl} {r:Rat} {b1 c1 s1:Bool} {m1 k1 n1 l1:ByteArray} {b2 b3:Bool} {m2 k2 m3 k3:ByteArray} (hx:Rv x b1 m1 k1 c1 n1 l1 s1) (hr:Rq r b2 m2 k2) (h3:Rq (x.p+r) b3 m3 k3) (zx:Rz 5000 x) (zr:Sz 5000 r) (w:World) (hE:Env w) :
  Calls Tryz.prog 44 #[.agg #[.bool b1,.string m1,.bool false,.string k1,.bool c1,.string n1,.bool false,.string l1,.bool s1],.agg #[.bool b2,.string m2,.bool false,.string k2]] w (RetB w (.agg #[.bool b3,.string m3,.bool false,.string k3,.bool c1,.string n1,.bool false,.string l1,.bool s1])):=by
 have C1:=ke hE (add_z hx.p hr h3 (zx.p.up (by omega)) (zr.up (by omega)))
 have RS:=Lib.hid Tryz.results44
 clear hx hr h3 zx zr hE
 go_enter Tryz.func44,Tryz.ntmps44
 exact wk0
end Go.Proofs.YtpnokfgplnmjpaaGreatDoor
