import Derived.Test.YtdbhahiieokplaaGreatDoorGRTD
import Derived.Test.YtdbhahiieokplaaGreatDoorGQR
import Derived.Test.YtdbhahiieokplaaGreatDoorGRGC
set_option linter.unusedSimpArgs false
set_option linter.unusedVariables false

namespace Go.Proofs.YtdbhahiieokplaaGreatDoor
open Go.RowKit
attribute [local go_sem ↓] Go.wp_at_zero Go.wp_at_succ

set_option maxHeartbeats 16000000 in
set_option maxRecDepth 100000 in
theorem ratDiv_pos {p q r:Rat} {b1 b3:Bool} {m1 m2 m3 k1 k2 k3 k4 mq:ByteArray} (hp:Rq p b1 m1 k1) (hq:Rq q false m2 k2) (hi:Rq r false mq k4) (hr:Rq (p*r) b3 m3 k3) (hmq:mq=mag q.den) (hnum:r.num=q.num.sign*(q.den:Int)) (hden:r.den=q.num.natAbs) (h0:q.num.sign≠0) (s1:m1.size≤10000) (s2:m2.size≤10000) (s3:(mag p.den).size≤10000) (s4:(mag q.den).size≤10000) (w:World) (hE:Env w) :
  Calls Tryz.prog 88 #[.agg #[.bool b1,.string m1,.bool false,.string k1],.agg #[.bool false,.string m2,.bool false,.string k2]] w (RetB w (.tuple #[.agg #[.bool b3,.string m3,.bool false,.string k3],.int .i64 0])):=by
 have HS:=Lib.hid (fun V=>ratSign_f hq V)
 have hD:=fun V (hV:Env V)=>den_f hq V hV
 rw [←hmq] at hD
 have HD:=Lib.hid hD
 have hab:=fun V=>abs_f hq.num (enc_mag q.num.natAbs) V
 have HAB:=Lib.hid hab
 have hcp:=fun V (hV:Env V)=>coprime_f false mq q.num.natAbs V hV
 rw [←hden,←hi.den] at hcp
 rw [hden,←hq.mag.2] at hcp
 have HCP:=Lib.hid hcp
 have HM:=Lib.hid (fun V (hV:Env V)=>ratMul_f hp hi hr s1 (by rw [hmq];exact s4) s3 (by rw [hden,←hq.mag.2];exact s2) V hV)
 have HE:=Lib.hid (fun V (h:Below w.heap.size w V)=>hE.next h)
 rw [←hq.mag.2] at HAB
 generalize q.num.sign=s at *
 generalize hd:r.den=rd at *
 clear hp hq hi hr hmq hnum hden hD hab hcp s1 s2 s3 s4 hE hd
 have X:=Lib.hid ((((Sb.start w).new #[.bool b1,.string m1,.bool false,.string k1] 25).new #[.bool false,.string m2,.bool false,.string k2] 25).new #[.bool false,.string ⟨#[]⟩,.bool false,.string ⟨#[]⟩] 25)
 have X:=Lib.hid (X.out.pick [0,1,2] [(w.heap.size,#[.bool b1,.string m1,.bool false,.string k1],25),(w.heap.size+1,#[.bool false,.string m2,.bool false,.string k2],25),(w.heap.size+1+1,#[.bool false,.string ⟨#[]⟩,.bool false,.string ⟨#[]⟩],25)] [] (by simp) (by decide) (by simp))
 go_enter Tryz.func88,Tryz.ntmps88
 go_upto_region 1 with fail
 obtain ⟨a0,a1,a2,a3⟩:=X.out.c4 (i:=1) rfl
 go_wp2_with fail
 refine (HS.out _).mono ?_
 rintro e u1 ⟨rfl,hb9⟩
 have X:=Lib.hid (X.out.next hb9)
 clear hb9 a0 a1 a2 a3
 go_upto_region 3 with fail
 go_cut [6] (fun s6 wx=>∃ g,s6=.pointer (some ⟨g,0,none⟩)∧Sb w [(w.heap.size,#[.bool b1,.string m1,.bool false,.string k1],25),(w.heap.size+1,#[.bool false,.string m2,.bool false,.string k2],25),(w.heap.size+1+1,#[.bool false,.string ⟨#[]⟩,.bool false,.string ⟨#[]⟩],25),(g,#[.bool false,.string mq],23)] [] wx)
 case first =>
  obtain ⟨a0,a1,a2,a3⟩:=X.out.c4 (i:=1) rfl
  go_wp2_with fail
  refine (HD.out _ (HE.out _ X.out.bel)).mono ?_
  rintro e u2 ⟨rfl,hb9⟩
  have X:=Lib.hid (X.out.next hb9)
  clear hb9 a0 a1 a2 a3
  have X:=Lib.hid (X.out.new #[.bool false,.string mq] 23)
  go_wp2_with fail
  go_meet
  exact ⟨_,rfl,X.out⟩
 obtain ⟨g,rfl,hX⟩:=hcut
 have X:=Lib.hid hX
 clear hX
 obtain ⟨a0,a1,a2,a3⟩:=X.out.c4 (i:=1) rfl
 obtain ⟨c0,c1⟩:=X.out.c2 (i:=3) rfl
 go_upto_region 6 with fail
 clear a0 a1 a2 a3 c0 c1
 refine wp_region_late (S:=fun w'=>(w'.cell? ⟨w.heap.size,0,none⟩=some (.bool b1)∧w'.cell? ⟨w.heap.size,1,none⟩=some (.string m1)∧w'.cell? ⟨w.heap.size,2,none⟩=some (.bool false)∧w'.cell? ⟨w.heap.size,3,none⟩=some (.string k1))∧(w'.cell? ⟨g,0,none⟩=some (.bool false)∧w'.cell? ⟨g,1,none⟩=some (.string mq))∧(w'.cell? ⟨w.heap.size+1,0,none⟩=some (.bool false)∧w'.cell? ⟨w.heap.size+1,1,none⟩=some (.string m2)∧w'.cell? ⟨w.heap.size+1,2,none⟩=some (.bool false)∧w'.cell? ⟨w.heap.size+1,3,none⟩=some (.string k2))) (L:=[]) (by kernel_rfl) ?_
 have X:=Lib.hid X.out.drew
 obtain ⟨V0,hV⟩:=wexi X.out
 rw [←hV] at X ⊢
 clear hV
 refine tk (i:=0) (oi:=⟨some 18,_,_,_,_,_⟩) (v:=_) rfl (by kernel_rfl) (fun _ _ _ h=>h) (⟨X.out.c4 (i:=0) rfl,X.out.c2 (i:=3) rfl,X.out.c4 (i:=1) rfl⟩) (Or.inl ⟨by rfl,by intro w hSw;(try dsimp only at hSw);(first | (go_simp;done) | (go_simp;with_reducible rfl))⟩) ?_
 try simp only [Act.put,seti,set0,setS]
 refine tk (i:=1) (oi:=⟨some 19,_,_,_,_,_⟩) (v:=_) rfl (by kernel_rfl) (fun _ _ _ h=>h) (⟨X.out.c4 (i:=0) rfl,X.out.c2 (i:=3) rfl,X.out.c4 (i:=1) rfl⟩) (Or.inl ⟨by rfl,by intro w hSw;(try dsimp only at hSw);(first | (go_simp;done) | (go_simp;with_reducible rfl))⟩) ?_
 try simp only [Act.put,seti,set0,setS]
 refine tk (i:=2) (oi:=⟨some 20,_,_,_,_,_⟩) (v:=_) rfl (by kernel_rfl) (fun _ _ _ h=>h) (⟨X.out.c4 (i:=0) rfl,X.out.c2 (i:=3) rfl,X.out.c4 (i:=1) rfl⟩) (Or.inl ⟨by rfl,by intro w hSw;(try dsimp only at hSw);(first | (go_simp;done) | (go_simp;with_reducible rfl))⟩) ?_
 try simp only [Act.put,seti,set0,setS]
 refine tk (i:=3) (oi:=⟨some 21,_,_,_,_,_⟩) (v:=_) rfl (by kernel_rfl) (fun _ _ _ h=>h) (⟨X.out.c4 (i:=0) rfl,X.out.c2 (i:=3) rfl,X.out.c4 (i:=1) rfl⟩) (Or.inl ⟨by rfl,by intro w hSw;(try dsimp only at hSw);(first | (go_simp;done) | (go_simp;with_reducible rfl))⟩) ?_
 try simp only [Act.put,seti,set0,setS]
 refine wpLate_one (i:=4) (o:=⟨some 22,_,_,_,_,_⟩) (by kernel_rfl) rfl (fun K hK=>?_)
 go_simp
 (go_at_call 133;refine (HAB.out _).mono ?_;rintro e u1 ⟨rfl,hb9⟩;have X:=Lib.hid (X.out.next hb9);clear hb9)
 try go_wp2_with fail
 refine hK.out _ _ (Or.inr (fun _=>⟨X.out.c4 (i:=0) rfl,X.out.c2 (i:=3) rfl,X.out.c4 (i:=1) rfl⟩)) ?_
 clear hK K
 try simp only [Act.put,seti,set0,setS]
 refine wpLate_one (i:=5) (o:=⟨some 23,_,_,_,_,_⟩) (by kernel_rfl) rfl (fun K hK=>?_)
 go_simp
 (go_at_call 104;refine (HCP.out _ (HE.out _ X.out.bel)).mono ?_;rintro e u2 ⟨rfl,hb9⟩;have X:=Lib.hid (X.out.next hb9);clear hb9)
 try go_wp2_with fail
 refine hK.out _ _ (Or.inr (fun _=>⟨X.out.c4 (i:=0) rfl,X.out.c2 (i:=3) rfl,X.out.c4 (i:=1) rfl⟩)) ?_
 clear hK K
 try simp only [Act.put,seti,set0,setS]
 refine wpLate_one (i:=6) (o:=⟨some 24,_,_,_,_,_⟩) (by kernel_rfl) rfl (fun K hK=>?_)
 go_simp
 (go_at_call 51;refine (HM.out _ (HE.out _ X.out.bel)).mono ?_;rintro e u3 ⟨rfl,hb9⟩;have X:=Lib.hid (X.out.next hb9);clear hb9)
 try go_wp2_with fail
 refine hK.out _ _ (Or.inr (fun _=>⟨X.out.c4 (i:=0) rfl,X.out.c2 (i:=3) rfl,X.out.c4 (i:=1) rfl⟩)) ?_
 clear hK K
 try simp only [Act.put,seti,set0,setS]
 refine wpLate_one (i:=7) (o:=⟨none,_,_,_,_,_⟩) (by kernel_rfl) rfl (fun K hK=>?_)
 obtain ⟨x0,x1,x2,x3⟩:=X.out.c4 (i:=2) rfl
 obtain ⟨y0,y1,y2,y3⟩:=X.out.f4 (i:=2) rfl
 have X:=Lib.hid (X.out.set4 (i:=2) rfl (.bool b3) (.string m3) (.bool false) (.string k3))
 go_simp
 refine hK.out _ _ (Or.inr (fun _=>⟨X.out.c4 (i:=0) rfl,X.out.c2 (i:=3) rfl,X.out.c4 (i:=1) rfl⟩)) ?_
 clear hK K x0 x1 x2 x3 y0 y1 y2 y3
 try simp only [Act.put,seti,set0,setS]
 obtain ⟨W4,hV⟩:=wexi X.out
 rw [←hV] at X ⊢
 clear hV
 refine tk (i:=8) (oi:=⟨some 5,_,_,_,_,_⟩) (v:=_) rfl (by kernel_rfl) (fun _ _ _ h=>h) (⟨X.out.c4 (i:=0) rfl,X.out.c2 (i:=3) rfl,X.out.c4 (i:=1) rfl⟩) (Or.inl ⟨by rfl,by intro w hSw;(try dsimp only at hSw);(first | (go_simp;done) | (go_simp;with_reducible rfl))⟩) ?_
 try simp only [Act.put,seti,set0,setS]
 refine wpLate_done (by kernel_rfl) ?_ _
 go_wp2
 obtain ⟨p0,p1,p2,p3⟩:=X.out.c4 (i:=2) rfl
 exact bodyPost_ret (v:=.tuple #[.agg #[.bool b3,.string m3,.bool false,.string k3],.int .i64 0]) (by simp [results,Tryz.results88,go_sem,p0,p1,p2,p3]) rfl ⟨rfl,X.out.bel⟩

set_option maxHeartbeats 16000000 in
set_option maxRecDepth 100000 in
theorem ratDiv_neg {p q r:Rat} {b1 b3:Bool} {m1 m2 m3 k1 k2 k3 k4 mq:ByteArray} (hp:Rq p b1 m1 k1) (hq:Rq q true m2 k2) (hi:Rq r true mq k4) (hr:Rq (p*r) b3 m3 k3) (hmq:mq=mag q.den) (hnum:r.num=q.num.sign*(q.den:Int)) (hden:r.den=q.num.natAbs) (h0:q.num.sign≠0) (s1:m1.size≤10000) (s2:m2.size≤10000) (s3:(mag p.den).size≤10000) (s4:(mag q.den).size≤10000) (w:World) (hE:Env w) :
  Calls Tryz.prog 88 #[.agg #[.bool b1,.string m1,.bool false,.string k1],.agg #[.bool true,.string m2,.bool false,.string k2]] w (RetB w (.tuple #[.agg #[.bool b3,.string m3,.bool false,.string k3],.int .i64 0])):=by
 have HS:=Lib.hid (fun V=>ratSign_f hq V)
 have hD:=fun V (hV:Env V)=>den_f hq V hV
 rw [←hmq] at hD
 have HD:=Lib.hid hD
 have hab:=fun V=>abs_f hq.num (enc_mag q.num.natAbs) V
 have HAB:=Lib.hid hab
 have hcp:=fun V (hV:Env V)=>coprime_f true mq q.num.natAbs V hV
 rw [←hden,←hi.den] at hcp
 rw [hden,←hq.mag.2] at hcp
 have HCP:=Lib.hid hcp
 have HM:=Lib.hid (fun V (hV:Env V)=>ratMul_f hp hi hr s1 (by rw [hmq];exact s4) s3 (by rw [hden,←hq.mag.2];exact s2) V hV)
 have HE:=Lib.hid (fun V (h:Below w.heap.size w V)=>hE.next h)
 have HN:=Lib.hid (fun V=>negate_f (enc_mag q.den) (show enc (-(q.den:Int))=.agg #[.bool true,.string mq] from by
  have h1:=hi.num
  rw [hnum] at h1
  have h2:q.num.sign=-1:=Int.sign_eq_neg_one_of_neg (of_decide_eq_true hq.mag.1.symm)
  rw [h2,Int.neg_one_mul] at h1
  exact h1) V)
 rw [←hmq] at HN
 rw [←hq.mag.2] at HAB
 generalize q.num.sign=s at *
 generalize hd:r.den=rd at *
 clear hp hq hi hr hmq hnum hden hD hab hcp s1 s2 s3 s4 hE hd
 have X:=Lib.hid ((((Sb.start w).new #[.bool b1,.string m1,.bool false,.string k1] 25).new #[.bool true,.string m2,.bool false,.string k2] 25).new #[.bool false,.string ⟨#[]⟩,.bool false,.string ⟨#[]⟩] 25)
 have X:=Lib.hid (X.out.pick [0,1,2] [(w.heap.size,#[.bool b1,.string m1,.bool false,.string k1],25),(w.heap.size+1,#[.bool true,.string m2,.bool false,.string k2],25),(w.heap.size+1+1,#[.bool false,.string ⟨#[]⟩,.bool false,.string ⟨#[]⟩],25)] [] (by simp) (by decide) (by simp))
 go_enter Tryz.func88,Tryz.ntmps88
 go_upto_region 1 with fail
 obtain ⟨a0,a1,a2,a3⟩:=X.out.c4 (i:=1) rfl
 go_wp2_with fail
 refine (HS.out _).mono ?_
 rintro e u1 ⟨rfl,hb9⟩
 have X:=Lib.hid (X.out.next hb9)
 clear hb9 a0 a1 a2 a3
 go_upto_region 3 with fail
 go_cut [6] (fun s6 wx=>∃ g,s6=.pointer (some ⟨g,0,none⟩)∧Sb w [(w.heap.size,#[.bool b1,.string m1,.bool false,.string k1],25),(w.heap.size+1,#[.bool true,.string m2,.bool false,.string k2],25),(w.heap.size+1+1,#[.bool false,.string ⟨#[]⟩,.bool false,.string ⟨#[]⟩],25),(g,#[.bool false,.string mq],23)] [] wx)
 case first =>
  obtain ⟨a0,a1,a2,a3⟩:=X.out.c4 (i:=1) rfl
  go_wp2_with fail
  refine (HD.out _ (HE.out _ X.out.bel)).mono ?_
  rintro e u2 ⟨rfl,hb9⟩
  have X:=Lib.hid (X.out.next hb9)
  clear hb9 a0 a1 a2 a3
  have X:=Lib.hid (X.out.new #[.bool false,.string mq] 23)
  go_wp2_with fail
  go_meet
  exact ⟨_,rfl,X.out⟩
 obtain ⟨g,rfl,hX⟩:=hcut
 have X:=Lib.hid hX
 clear hX
 obtain ⟨a0,a1,a2,a3⟩:=X.out.c4 (i:=1) rfl
 obtain ⟨c0,c1⟩:=X.out.c2 (i:=3) rfl
 obtain ⟨d0,d1⟩:=X.out.f2 (i:=3) rfl
 go_wp2_with fail
 refine (HN.out _).mono ?_
 rintro e u3 ⟨rfl,hb9⟩
 have X:=Lib.hid (X.out.next hb9)
 clear hb9 a0 a1 a2 a3 c0 c1 d0 d1
 obtain ⟨c0,c1⟩:=X.out.c2 (i:=3) rfl
 obtain ⟨d0,d1⟩:=X.out.f2 (i:=3) rfl
 go_upto_region 6 with fail
 have X:=Lib.hid (X.out.set2 (i:=3) rfl (.bool true) (.string mq))
 clear c0 c1 d0 d1
 refine wp_region_late (S:=fun w'=>(w'.cell? ⟨w.heap.size,0,none⟩=some (.bool b1)∧w'.cell? ⟨w.heap.size,1,none⟩=some (.string m1)∧w'.cell? ⟨w.heap.size,2,none⟩=some (.bool false)∧w'.cell? ⟨w.heap.size,3,none⟩=some (.string k1))∧(w'.cell? ⟨g,0,none⟩=some (.bool true)∧w'.cell? ⟨g,1,none⟩=some (.string mq))∧(w'.cell? ⟨w.heap.size+1,0,none⟩=some (.bool true)∧w'.cell? ⟨w.heap.size+1,1,none⟩=some (.string m2)∧w'.cell? ⟨w.heap.size+1,2,none⟩=some (.bool false)∧w'.cell? ⟨w.heap.size+1,3,none⟩=some (.string k2))) (L:=[]) (by kernel_rfl) ?_
 have X:=Lib.hid X.out.drew
 obtain ⟨V0,hV⟩:=wexi X.out
 rw [←hV] at X ⊢
 clear hV
 refine tk (i:=0) (oi:=⟨some 18,_,_,_,_,_⟩) (v:=_) rfl (by kernel_rfl) (fun _ _ _ h=>h) (⟨X.out.c4 (i:=0) rfl,X.out.c2 (i:=3) rfl,X.out.c4 (i:=1) rfl⟩) (Or.inl ⟨by rfl,by intro w hSw;(try dsimp only at hSw);(first | (go_simp;done) | (go_simp;with_reducible rfl))⟩) ?_
 try simp only [Act.put,seti,set0,setS]
 refine tk (i:=1) (oi:=⟨some 19,_,_,_,_,_⟩) (v:=_) rfl (by kernel_rfl) (fun _ _ _ h=>h) (⟨X.out.c4 (i:=0) rfl,X.out.c2 (i:=3) rfl,X.out.c4 (i:=1) rfl⟩) (Or.inl ⟨by rfl,by intro w hSw;(try dsimp only at hSw);(first | (go_simp;done) | (go_simp;with_reducible rfl))⟩) ?_
 try simp only [Act.put,seti,set0,setS]
 refine tk (i:=2) (oi:=⟨some 20,_,_,_,_,_⟩) (v:=_) rfl (by kernel_rfl) (fun _ _ _ h=>h) (⟨X.out.c4 (i:=0) rfl,X.out.c2 (i:=3) rfl,X.out.c4 (i:=1) rfl⟩) (Or.inl ⟨by rfl,by intro w hSw;(try dsimp only at hSw);(first | (go_simp;done) | (go_simp;with_reducible rfl))⟩) ?_
 try simp only [Act.put,seti,set0,setS]
 refine tk (i:=3) (oi:=⟨some 21,_,_,_,_,_⟩) (v:=_) rfl (by kernel_rfl) (fun _ _ _ h=>h) (⟨X.out.c4 (i:=0) rfl,X.out.c2 (i:=3) rfl,X.out.c4 (i:=1) rfl⟩) (Or.inl ⟨by rfl,by intro w hSw;(try dsimp only at hSw);(first | (go_simp;done) | (go_simp;with_reducible rfl))⟩) ?_
 try simp only [Act.put,seti,set0,setS]
 refine wpLate_one (i:=4) (o:=⟨some 22,_,_,_,_,_⟩) (by kernel_rfl) rfl (fun K hK=>?_)
 go_simp
 (go_at_call 133;refine (HAB.out _).mono ?_;rintro e u1 ⟨rfl,hb9⟩;have X:=Lib.hid (X.out.next hb9);clear hb9)
 try go_wp2_with fail
 refine hK.out _ _ (Or.inr (fun _=>⟨X.out.c4 (i:=0) rfl,X.out.c2 (i:=3) rfl,X.out.c4 (i:=1) rfl⟩)) ?_
 clear hK K
 try simp only [Act.put,seti,set0,setS]
 refine wpLate_one (i:=5) (o:=⟨some 23,_,_,_,_,_⟩) (by kernel_rfl) rfl (fun K hK=>?_)
 go_simp
 (go_at_call 104;refine (HCP.out _ (HE.out _ X.out.bel)).mono ?_;rintro e u2 ⟨rfl,hb9⟩;have X:=Lib.hid (X.out.next hb9);clear hb9)
 try go_wp2_with fail
 refine hK.out _ _ (Or.inr (fun _=>⟨X.out.c4 (i:=0) rfl,X.out.c2 (i:=3) rfl,X.out.c4 (i:=1) rfl⟩)) ?_
 clear hK K
 try simp only [Act.put,seti,set0,setS]
 refine wpLate_one (i:=6) (o:=⟨some 24,_,_,_,_,_⟩) (by kernel_rfl) rfl (fun K hK=>?_)
 go_simp
 (go_at_call 51;refine (HM.out _ (HE.out _ X.out.bel)).mono ?_;rintro e u3 ⟨rfl,hb9⟩;have X:=Lib.hid (X.out.next hb9);clear hb9)
 try go_wp2_with fail
 refine hK.out _ _ (Or.inr (fun _=>⟨X.out.c4 (i:=0) rfl,X.out.c2 (i:=3) rfl,X.out.c4 (i:=1) rfl⟩)) ?_
 clear hK K
 try simp only [Act.put,seti,set0,setS]
 refine wpLate_one (i:=7) (o:=⟨none,_,_,_,_,_⟩) (by kernel_rfl) rfl (fun K hK=>?_)
 obtain ⟨x0,x1,x2,x3⟩:=X.out.c4 (i:=2) rfl
 obtain ⟨y0,y1,y2,y3⟩:=X.out.f4 (i:=2) rfl
 have X:=Lib.hid (X.out.set4 (i:=2) rfl (.bool b3) (.string m3) (.bool false) (.string k3))
 go_simp
 refine hK.out _ _ (Or.inr (fun _=>⟨X.out.c4 (i:=0) rfl,X.out.c2 (i:=3) rfl,X.out.c4 (i:=1) rfl⟩)) ?_
 clear hK K x0 x1 x2 x3 y0 y1 y2 y3
 try simp only [Act.put,seti,set0,setS]
 obtain ⟨W4,hV⟩:=wexi X.out
 rw [←hV] at X ⊢
 clear hV
 refine tk (i:=8) (oi:=⟨some 5,_,_,_,_,_⟩) (v:=_) rfl (by kernel_rfl) (fun _ _ _ h=>h) (⟨X.out.c4 (i:=0) rfl,X.out.c2 (i:=3) rfl,X.out.c4 (i:=1) rfl⟩) (Or.inl ⟨by rfl,by intro w hSw;(try dsimp only at hSw);(first | (go_simp;done) | (go_simp;with_reducible rfl))⟩) ?_
 try simp only [Act.put,seti,set0,setS]
 refine wpLate_done (by kernel_rfl) ?_ _
 go_wp2
 obtain ⟨p0,p1,p2,p3⟩:=X.out.c4 (i:=2) rfl
 exact bodyPost_ret (v:=.tuple #[.agg #[.bool b3,.string m3,.bool false,.string k3],.int .i64 0]) (by simp [results,Tryz.results88,go_sem,p0,p1,p2,p3]) rfl ⟨rfl,X.out.bel⟩

theorem ratDiv_f {p q:Rat} {b1 b2 b3:Bool} {m1 m2 m3 k1 k2 k3:ByteArray} (hp:Rq p b1 m1 k1) (hq:Rq q b2 m2 k2) (hr:Rq (p / q) b3 m3 k3) (h0:q.num≠0) (s1:m1.size≤10000) (s2:m2.size≤10000) (s3:(mag p.den).size≤10000) (s4:(mag q.den).size≤10000) (w:World) (hE:Env w) :
  Calls Tryz.prog 88 #[.agg #[.bool b1,.string m1,.bool false,.string k1],.agg #[.bool b2,.string m2,.bool false,.string k2]] w (RetB w (.tuple #[.agg #[.bool b3,.string m3,.bool false,.string k3],.int .i64 0])):=by
 have hden:(q⁻¹).den=q.num.natAbs:=by rw [Rat.den_inv,if_neg h0]
 have hnum:=Rat.num_inv q
 have hs:q.num.sign≠0:=by rw [ne_eq,Int.sign_eq_zero_iff_zero];exact h0
 rw [Rat.div_def] at hr
 have hb:=hq.mag.1
 rcases Int.lt_or_lt_of_ne h0 with h | h
 · rw [decide_eq_true h] at hb
   subst hb
   have hi:Rq (q⁻¹) true (mag q.den) (dm (q⁻¹).den):=⟨by
    rw [hnum,Int.sign_eq_neg_one_of_neg h,Int.neg_one_mul]
    have:=q.den_pos
    unfold enc
    rw [decide_eq_true (show -(q.den:Int)<0 by omega),Int.natAbs_neg,Int.natAbs_natCast],rfl⟩
   exact ratDiv_neg hp hq hi hr rfl hnum hden hs s1 s2 s3 s4 w hE
 · rw [decide_eq_false (by omega)] at hb
   subst hb
   have hi:Rq (q⁻¹) false (mag q.den) (dm (q⁻¹).den):=⟨by rw [hnum,Int.sign_eq_one_of_pos h,Int.one_mul];exact enc_mag q.den,rfl⟩
   exact ratDiv_pos hp hq hi hr rfl hnum hden hs s1 s2 s3 s4 w hE

end Go.Proofs.YtdbhahiieokplaaGreatDoor


namespace Go.Proofs.YtdbhahiieokplaaGreatDoor
open Go.RowKit
attribute [local go_sem ↓] Go.wp_at_zero Go.wp_at_succ

theorem divInt_self2 (q:Rat):Rat.divInt q.num (q.den:Int)=q:=by rw [Rat.divInt_ofNat];exact Rat.mkRat_self q

set_option maxHeartbeats 16000000 in
set_option maxRecDepth 100000 in
theorem rMul_f {p q:Rat} {b1 b2 b3:Bool} {m1 m2 m3 k1 k2 k3:ByteArray} (hp:Rq p b1 m1 k1) (hq:Rq q b2 m2 k2) (hr:Rq (p*q) b3 m3 k3) (s1:m1.size≤10000) (s2:m2.size≤10000) (s3:(mag p.den).size≤10000) (s4:(mag q.den).size≤10000) (w:World) :
  Calls Tryz.prog 45 #[.agg #[.bool b1,.string m1,.bool false,.string k1],.agg #[.bool b2,.string m2,.bool false,.string k2]] w (RetB w (.agg #[.bool b3,.string m3,.bool false,.string k3])):=by
 have ks:∀ {x:Rat} {b:Bool} {m k:ByteArray},Rq x b m k→(mag x.den).size≤10000→k.size≤10000:=fun {x b m k} h hs=>by
  by_cases hd:x.den=1
  · rw [h.den1 hd];exact Nat.zero_le _
  · rw [h.den2 hd];exact hs
 have HF1:=Lib.hid (fun V=>rof2 hp (by omega) (by have:=ks hp s3;omega) V)
 have HF2:=Lib.hid (fun V=>rof2 hq (by omega) (by have:=ks hq s4;omega) V)
 have n0:nd p.num.natAbs≤10000:=by unfold nd;rw [←hp.mag.2];exact s1
 have n1:nd p.den≤10000:=s3
 have n2:nd q.num.natAbs≤10000:=by unfold nd;rw [←hq.mag.2];exact s2
 have n3:nd q.den≤10000:=s4
 have HN0:=Lib.hid n0
 have HN1:=Lib.hid n1
 have HN2:=Lib.hid n2
 have HN3:=Lib.hid n3
 have n4:=nd_mul p.num.natAbs q.num.natAbs
 have n5:=nd_mul p.den q.den
 have hr':Rq (mkRat (sgn (b1 != b2) (p.num.natAbs*q.num.natAbs)) (p.den*q.den)) b3 m3 k3:=by
  rw [hp.mag.1,hq.mag.1,sgn_mul,←Rat.mul_def']
  exact hr
 have hY:0<p.den*q.den:=Nat.mul_pos p.den_pos q.den_pos
 have hcn:∀ (A B:Option Addr) (n m c d:Nat) (V:World),Tr V A n c (p.num.natAbs*q.num.natAbs)→Tr V B m d (p.den*q.den)→Calls Tryz.prog 91 #[.agg #[.bool (b1 != b2),.slice A n c,.slice B m d]] V (RetB V (.agg #[.bool b3,.string m3,.bool false,.string k3])):=by
  intro A B n m c d V hA hB
  refine (rcanonical (b1 != b2) A B n m c d _ _ V (by have:=hA.ln;omega) (by have:=hB.ln;omega) hA hB hY).mono ?_
  rintro e w3 ⟨b4,m4,k4,rfl,hq4,hb3⟩
  obtain ⟨rfl,rfl,rfl⟩:=hr'.inj hq4
  exact ⟨rfl,hb3⟩
 have HCN:=Lib.hid hcn
 have X:=Lib.hid ((((Sb.start w).new #[.bool b1,.string m1,.bool false,.string k1] 25).new #[.bool b2,.string m2,.bool false,.string k2] 25).new #[.bool false,.string ⟨#[]⟩,.bool false,.string ⟨#[]⟩] 25)
 have X:=Lib.hid (X.out.pick [0,1,2] [(w.heap.size,#[.bool b1,.string m1,.bool false,.string k1],25),(w.heap.size+1,#[.bool b2,.string m2,.bool false,.string k2],25),(w.heap.size+1+1,#[.bool false,.string ⟨#[]⟩,.bool false,.string ⟨#[]⟩],25)] [] (by simp) (by decide) (by simp))
 clear hp hq hr hr' hcn hY n0 n1 n2 n3 n4 n5 s1 s2 s3 s4 ks
 go_enter Tryz.func45,Tryz.ntmps45
 go_upto_region 1 with fail
 go_cut [5,6] (fun s5 s6 wx=>∃ g5 g6 A1 n1 c1 B1 x1 d1 A3 n3 c3 B3 x3 d3,s5=.pointer (some ⟨g5,0,none⟩)∧s6=.pointer (some ⟨g6,0,none⟩)∧Sb w [(w.heap.size+1+1,#[.bool false,.string ⟨#[]⟩,.bool false,.string ⟨#[]⟩],25),(g5,#[.bool b1,.slice A1 n1 c1,.slice B1 x1 d1],121),(g6,#[.bool b2,.slice A3 n3 c3,.slice B3 x3 d3],121)] [(A1,n1,c1,p.num.natAbs),(B1,x1,d1,p.den),(A3,n3,c3,q.num.natAbs),(B3,x3,d3,q.den)] wx)
 case first =>
  refine wp_region_any (by kernel_rfl) ?_
  have X:=Lib.hid X.out.drew
  obtain ⟨W0,hV⟩:=wexi X.out
  rw [show ∀ v:World,{ v with drawn:=v.drawn+1 }=v.drew from fun _=>rfl,←hV]
  rw [←hV] at X
  clear hV
  refine rg_run (ef:=[.val (.agg #[.bool b1,.string m1,.bool false,.string k1]),.rel (FracP b1 p.num.natAbs p.den),.val (.agg #[.bool b2,.string m2,.bool false,.string k2]),.rel (FracP b2 q.num.natAbs q.den),.new #[.bool false,.slice none 0 0,.slice none 0 0] 121,.new #[.bool false,.slice none 0 0,.slice none 0 0] 121]) (ds:=[7,8,9,10,5,6]) (by kernel_rfl) (stays_of (List.forall_mem_cons.2 ⟨trivial,(List.forall_mem_cons.2 ⟨fine_frac _ _ _,(List.forall_mem_cons.2 ⟨trivial,(List.forall_mem_cons.2 ⟨fine_frac _ _ _,(List.forall_mem_cons.2 ⟨trivial,(List.forall_mem_cons.2 ⟨trivial,(fun _ h=>by simp at h)⟩)⟩)⟩)⟩)⟩)⟩)) (by decide) rfl (by intro d hd;simp at hd ⊢;omega) (fun i d o hd ho listed a w1 hR hdep K hK=>?_) 2 (fun a w1 hR=>?_)
  · have X:=Lib.hid (X.out.next hR.bel)
    have HKt:=Lib.hid hK
    have HDp:=Lib.hid hdep
    have sl2:a.tmps.getD 2 undef=.pointer (some ⟨w.heap.size,0,none⟩):=hR.keep 2 (by decide)
    have sl3:a.tmps.getD 3 undef=.pointer (some ⟨w.heap.size+1,0,none⟩):=hR.keep 3 (by decide)
    have HRg:=Lib.hid hR
    clear hK hdep hR
    rcases i with _ | _ | _ | _ | _ | _ | i
    · cases hd
      cases ho
      obtain ⟨x00,x01,x02,x03⟩:=X.out.c4 (i:=0) rfl
      obtain ⟨x10,x11,x12,x13⟩:=X.out.c4 (i:=1) rfl
      go_simp
      exact HKt.out _ _ (Or.inl ⟨rfl,Below.refl _ _⟩)
    · cases hd
      cases ho
      have dd0:a.tmps.getD 7 undef=.agg #[.bool b1,.string m1,.bool false,.string k1]:=HRg.out.val 0 _ (HDp.out 0 (by decide)) rfl
      go_simp
      (go_at_call 89;refine (HF1.out _).mono ?_;rintro e u ⟨A9,n9,c9,B9,m9,d9,rfl,hT9,hU9,hb9,_,_⟩)
      try go_wp2_with fail
      exact HKt.out _ _ (Or.inr (Or.inr ⟨_,rfl,⟨A9,n9,c9,B9,m9,d9,rfl,hT9,hU9⟩,hb9⟩))
    · cases hd
      cases ho
      obtain ⟨x00,x01,x02,x03⟩:=X.out.c4 (i:=0) rfl
      obtain ⟨x10,x11,x12,x13⟩:=X.out.c4 (i:=1) rfl
      go_simp
      exact HKt.out _ _ (Or.inl ⟨rfl,Below.refl _ _⟩)
    · cases hd
      cases ho
      have dd2:a.tmps.getD 9 undef=.agg #[.bool b2,.string m2,.bool false,.string k2]:=HRg.out.val 2 _ (HDp.out 2 (by decide)) rfl
      go_simp
      (go_at_call 89;refine (HF2.out _).mono ?_;rintro e u ⟨A9,n9,c9,B9,m9,d9,rfl,hT9,hU9,hb9,_,_⟩)
      try go_wp2_with fail
      exact HKt.out _ _ (Or.inr (Or.inr ⟨_,rfl,⟨A9,n9,c9,B9,m9,d9,rfl,hT9,hU9⟩,hb9⟩))
    · cases hd
      cases ho
      go_simp
      exact HKt.out _ _ (Or.inr (Or.inl ⟨_,_,rfl,rfl,rfl⟩))
    · cases hd
      cases ho
      go_simp
      exact HKt.out _ _ (Or.inr (Or.inl ⟨_,_,rfl,rfl,rfl⟩))
    · cases hd
  obtain ⟨g4,hg4,lg4,kg4⟩:=hR.new 4 _ _ (by rfl) rfl
  obtain ⟨g5,hg5,lg5,kg5⟩:=hR.new 5 _ _ (by rfl) rfl
  have vv0:a.tmps.getD 7 undef=.agg #[.bool b1,.string m1,.bool false,.string k1]:=hR.val 0 _ (by rfl) rfl
  obtain ⟨A1,n1,c1,B1,m1,d1,vv1,hT1,hU1⟩:=hR.rel 1 _ (by rfl) rfl
  replace vv1:a.tmps.getD 8 undef=.agg #[.bool b1,.slice A1 n1 c1,.slice B1 m1 d1]:=vv1
  have vv2:a.tmps.getD 9 undef=.agg #[.bool b2,.string m2,.bool false,.string k2]:=hR.val 2 _ (by rfl) rfl
  obtain ⟨A3,n3,c3,B3,m3,d3,vv3,hT3,hU3⟩:=hR.rel 3 _ (by rfl) rfl
  replace vv3:a.tmps.getD 10 undef=.agg #[.bool b2,.slice A3 n3 c3,.slice B3 m3 d3]:=vv3
  replace hg4:a.tmps.getD 5 undef=.pointer (some ⟨g4,0,none⟩):=hg4
  replace hg5:a.tmps.getD 6 undef=.pointer (some ⟨g5,0,none⟩):=hg5
  have hne:g4≠g5:=fun e=>hR.ne 4 5 _ _ _ _ g4 (by decide) (by rfl) (by rfl) rfl rfl hg4 (by rw [e];exact hg5)
  have X:=Lib.hid (X.out.add2 hR.bel lg4 kg4 lg5 kg5 hne)
  have X:=Lib.hid (X.out.rows [(A1,n1,c1,p.num.natAbs),(B1,m1,d1,p.den),(A3,n3,c3,q.num.natAbs),(B3,m3,d3,q.den)] (List.forall_mem_cons.2 ⟨hT1,List.forall_mem_cons.2 ⟨hU1,(List.forall_mem_cons.2 ⟨hT3,List.forall_mem_cons.2 ⟨hU3,(fun _ h=>by simp at h)⟩⟩)⟩⟩) (by intro x hx;simp at hx;rcases hx with rfl | rfl | rfl | rfl | rfl<;>(intro j k n;rcases j with _ | _ | _ | _ | _ | j<;>simp)))
  have ha:=hR.act
  simp only [List.foldl_cons,List.foldl_nil,seti,set0,setS,vv0,vv1,vv2,vv3,hg4,hg5] at ha
  subst ha
  clear hR vv0 vv1 vv2 vv3 hg4 lg4 kg4 hg5 lg5 kg5 hne
  refine wpAny_of_late (S:=fun _=>True) (L:=[]) _ _ _ _ ?_
  refine wpLate_one (i:=6) (o:=⟨none,_,_,_,_,_⟩) (by kernel_rfl) rfl (fun K hK=>?_)
  obtain ⟨x0,x1,x2⟩:=X.out.c3 (i:=3) rfl
  obtain ⟨y0,y1,y2⟩:=X.out.f3 (i:=3) rfl
  have X:=Lib.hid (X.out.set3 (i:=3) rfl (.bool b1) (.slice A1 n1 c1) (.slice B1 m1 d1))
  go_simp
  refine hK.out _ _ (Or.inr fun _=>trivial) ?_
  clear hK K x0 x1 x2 y0 y1 y2
  obtain ⟨W6,hV⟩:=wexi X.out
  rw [←hV] at X ⊢
  clear hV
  try simp only [Act.put]
  refine wpLate_one (i:=7) (o:=⟨none,_,_,_,_,_⟩) (by kernel_rfl) rfl (fun K hK=>?_)
  obtain ⟨x0,x1,x2⟩:=X.out.c3 (i:=4) rfl
  obtain ⟨y0,y1,y2⟩:=X.out.f3 (i:=4) rfl
  have X:=Lib.hid (X.out.set3 (i:=4) rfl (.bool b2) (.slice A3 n3 c3) (.slice B3 m3 d3))
  go_simp
  refine hK.out _ _ (Or.inr fun _=>trivial) ?_
  clear hK K x0 x1 x2 y0 y1 y2
  obtain ⟨W7,hV⟩:=wexi X.out
  rw [←hV] at X ⊢
  clear hV
  try simp only [Act.put]
  refine wpLate_done (by kernel_rfl) ?_ _
  go_wp2_with fail
  go_meet
  exact ⟨_,_,_,_,_,_,_,_,_,_,_,_,_,_,rfl,rfl,X.out.pick [2,3,4] _ _ rfl (by decide) (fun _ h=>h)⟩
 obtain ⟨g5,g6,A1,n1,c1,B1,x1,d1,A3,n3,c3,B3,x3,d3,rfl,rfl,hX⟩:=hcut
 have X:=Lib.hid hX
 clear hX
 go_upto_region 2 with fail
 refine wp_region_late (S:=fun w'=>(w'.cell? ⟨g5,0,none⟩=some (.bool b1)∧w'.cell? ⟨g5,1,none⟩=some (.slice A1 n1 c1)∧w'.cell? ⟨g5,2,none⟩=some (.slice B1 x1 d1))∧(w'.cell? ⟨g6,0,none⟩=some (.bool b2)∧w'.cell? ⟨g6,1,none⟩=some (.slice A3 n3 c3)∧w'.cell? ⟨g6,2,none⟩=some (.slice B3 x3 d3))) (L:=[]) (by kernel_rfl) ?_
 have X:=Lib.hid X.out.drew
 obtain ⟨V0,hV⟩:=wexi X.out
 rw [←hV] at X ⊢
 clear hV
 refine tk (i:=0) (oi:=⟨some 11,_,_,_,_,_⟩) (v:=_) rfl (by kernel_rfl) (fun _ _ _ h=>h) (⟨X.out.c3 (i:=1) rfl,X.out.c3 (i:=2) rfl⟩) (Or.inl ⟨by rfl,by intro w hSw;(try dsimp only at hSw);(first | (go_simp;done) | (go_simp;with_reducible rfl))⟩) ?_
 try simp only [Act.put,seti,set0,setS]
 refine tk (i:=1) (oi:=⟨some 12,_,_,_,_,_⟩) (v:=_) rfl (by kernel_rfl) (fun _ _ _ h=>h) (⟨X.out.c3 (i:=1) rfl,X.out.c3 (i:=2) rfl⟩) (Or.inl ⟨by rfl,by intro w hSw;(try dsimp only at hSw);(first | (go_simp;done) | (go_simp;with_reducible rfl))⟩) ?_
 try simp only [Act.put,seti,set0,setS]
 refine tk (i:=2) (oi:=⟨some 13,_,_,_,_,_⟩) (v:=_) rfl (by kernel_rfl) (fun _ _ _ h=>h) (⟨X.out.c3 (i:=1) rfl,X.out.c3 (i:=2) rfl⟩) (Or.inl ⟨by rfl,by intro w hSw;(try dsimp only at hSw);(first | (go_simp;done) | (go_simp;with_reducible rfl))⟩) ?_
 try simp only [Act.put,seti,set0,setS]
 refine tk (i:=3) (oi:=⟨some 14,_,_,_,_,_⟩) (v:=_) rfl (by kernel_rfl) (fun _ _ _ h=>h) (⟨X.out.c3 (i:=1) rfl,X.out.c3 (i:=2) rfl⟩) (Or.inl ⟨by rfl,by intro w hSw;(try dsimp only at hSw);(first | (go_simp;done) | (go_simp;with_reducible rfl))⟩) ?_
 try simp only [Act.put,seti,set0,setS]
 refine tk (i:=4) (oi:=⟨some 15,_,_,_,_,_⟩) (v:=_) rfl (by kernel_rfl) (fun _ _ _ h=>h) (⟨X.out.c3 (i:=1) rfl,X.out.c3 (i:=2) rfl⟩) (Or.inl ⟨by rfl,by intro w hSw;(try dsimp only at hSw);(first | (go_simp;done) | (go_simp;with_reducible rfl))⟩) ?_
 try simp only [Act.put,seti,set0,setS]
 refine tk (i:=5) (oi:=⟨some 16,_,_,_,_,_⟩) (v:=_) rfl (by kernel_rfl) (fun _ _ _ h=>h) (⟨X.out.c3 (i:=1) rfl,X.out.c3 (i:=2) rfl⟩) (Or.inl ⟨by rfl,by intro w hSw;(try dsimp only at hSw);(first | (go_simp;done) | (go_simp;with_reducible rfl))⟩) ?_
 try simp only [Act.put,seti,set0,setS]
 refine tk (i:=6) (oi:=⟨some 17,_,_,_,_,_⟩) (v:=_) rfl (by kernel_rfl) (fun _ _ _ h=>h) (⟨X.out.c3 (i:=1) rfl,X.out.c3 (i:=2) rfl⟩) (Or.inl ⟨by rfl,by intro w hSw;(try dsimp only at hSw);(first | (go_simp;done) | (go_simp;with_reducible rfl))⟩) ?_
 try simp only [Act.put,seti,set0,setS]
 refine tk (i:=7) (oi:=⟨some 18,_,_,_,_,_⟩) (v:=_) rfl (by kernel_rfl) (fun _ _ _ h=>h) (⟨X.out.c3 (i:=1) rfl,X.out.c3 (i:=2) rfl⟩) (Or.inl ⟨by rfl,by intro w hSw;(try dsimp only at hSw);(first | (go_simp;done) | (go_simp;with_reducible rfl))⟩) ?_
 try simp only [Act.put,seti,set0,setS]
 refine tk (i:=8) (oi:=⟨some 19,_,_,_,_,_⟩) (v:=_) rfl (by kernel_rfl) (fun _ _ _ h=>h) (⟨X.out.c3 (i:=1) rfl,X.out.c3 (i:=2) rfl⟩) (Or.inl ⟨by rfl,by intro w hSw;(try dsimp only at hSw);(first | (go_simp;done) | (go_simp;with_reducible rfl))⟩) ?_
 try simp only [Act.put,seti,set0,setS]
 refine tk (i:=10) (oi:=⟨some 21,_,_,_,_,_⟩) (v:=_) rfl (by kernel_rfl) (fun _ _ _ h=>h) (⟨X.out.c3 (i:=1) rfl,X.out.c3 (i:=2) rfl⟩) (Or.inl ⟨by rfl,by intro w hSw;(try dsimp only at hSw);(first | (go_simp;done) | (go_simp;with_reducible rfl))⟩) ?_
 try simp only [Act.put,seti,set0,setS]
 refine tk (i:=11) (oi:=⟨some 22,_,_,_,_,_⟩) (v:=_) rfl (by kernel_rfl) (fun _ _ _ h=>h) (⟨X.out.c3 (i:=1) rfl,X.out.c3 (i:=2) rfl⟩) (Or.inl ⟨by rfl,by intro w hSw;(try dsimp only at hSw);(first | (go_simp;done) | (go_simp;with_reducible rfl))⟩) ?_
 try simp only [Act.put,seti,set0,setS]
 refine tk (i:=12) (oi:=⟨some 23,_,_,_,_,_⟩) (v:=_) rfl (by kernel_rfl) (fun _ _ _ h=>h) (⟨X.out.c3 (i:=1) rfl,X.out.c3 (i:=2) rfl⟩) (Or.inl ⟨by rfl,by intro w hSw;(try dsimp only at hSw);(first | (go_simp;done) | (go_simp;with_reducible rfl))⟩) ?_
 try simp only [Act.put,seti,set0,setS]
 refine tk (i:=13) (oi:=⟨some 24,_,_,_,_,_⟩) (v:=_) rfl (by kernel_rfl) (fun _ _ _ h=>h) (⟨X.out.c3 (i:=1) rfl,X.out.c3 (i:=2) rfl⟩) (Or.inl ⟨by rfl,by intro w hSw;(try dsimp only at hSw);(first | (go_simp;done) | (go_simp;with_reducible rfl))⟩) ?_
 try simp only [Act.put,seti,set0,setS]
 refine wpLate_one (i:=9) (o:=⟨some 20,_,_,_,_,_⟩) (by kernel_rfl) rfl (fun K hK=>?_)
 go_simp
 (go_at_call 90;refine (rtimes _ _ _ _ _ _ _ _ _ (by have h:=(X.out.rw (i:=0) rfl).ln;have h2:=HN0.out;omega) (by have h:=(X.out.rw (i:=2) rfl).ln;have h2:=HN2.out;omega) (X.out.rw (i:=0) rfl).dg (X.out.rw (i:=2) rfl).dg).mono ?_;rintro e u1 ⟨A1,n1,c1,rfl,ht9,hb9,hf9⟩;have X:=Lib.hid (X.out.row hb9 ht9 hf9);clear hb9 ht9 hf9)
 try go_wp2_with fail
 refine hK.out _ _ (Or.inr (fun _=>⟨X.out.c3 (i:=1) rfl,X.out.c3 (i:=2) rfl⟩)) ?_
 clear hK K
 try simp only [Act.put,seti,set0,setS]
 refine wpLate_one (i:=14) (o:=⟨some 25,_,_,_,_,_⟩) (by kernel_rfl) rfl (fun K hK=>?_)
 go_simp
 (go_at_call 90;refine (rtimes _ _ _ _ _ _ _ _ _ (by have h:=(X.out.rw (i:=1) rfl).ln;have h2:=HN1.out;omega) (by have h:=(X.out.rw (i:=3) rfl).ln;have h2:=HN3.out;omega) (X.out.rw (i:=1) rfl).dg (X.out.rw (i:=3) rfl).dg).mono ?_;rintro e u2 ⟨A2,n2,c2,rfl,ht9,hb9,hf9⟩;have X:=Lib.hid (X.out.row hb9 ht9 hf9);clear hb9 ht9 hf9)
 try go_wp2_with fail
 refine hK.out _ _ (Or.inr (fun _=>⟨X.out.c3 (i:=1) rfl,X.out.c3 (i:=2) rfl⟩)) ?_
 clear hK K
 try simp only [Act.put,seti,set0,setS]
 refine tk (i:=15) (oi:=⟨some 26,_,_,_,_,_⟩) (v:=_) rfl (by kernel_rfl) (fun _ _ _ h=>h) (⟨X.out.c3 (i:=1) rfl,X.out.c3 (i:=2) rfl⟩) (Or.inl ⟨by rfl,by intro w hSw;(try dsimp only at hSw);(first | (go_simp;done) | (go_simp;with_reducible rfl))⟩) ?_
 try simp only [Act.put,seti,set0,setS]
 refine wpLate_one (i:=16) (o:=⟨some 27,_,_,_,_,_⟩) (by kernel_rfl) rfl (fun K hK=>?_)
 go_simp
 (go_at_call 91;refine (HCN.out _ _ _ _ _ _ _ (X.out.rw (i:=4) rfl) (X.out.rw (i:=5) rfl)).mono ?_;rintro e u3 ⟨rfl,hb9⟩;have X:=Lib.hid (X.out.next hb9);clear hb9)
 try go_wp2_with fail
 refine hK.out _ _ (Or.inr (fun _=>⟨X.out.c3 (i:=1) rfl,X.out.c3 (i:=2) rfl⟩)) ?_
 clear hK K
 try simp only [Act.put,seti,set0,setS]
 refine wpLate_one (i:=17) (o:=⟨none,_,_,_,_,_⟩) (by kernel_rfl) rfl (fun K hK=>?_)
 obtain ⟨x0,x1,x2,x3⟩:=X.out.c4 (i:=0) rfl
 obtain ⟨y0,y1,y2,y3⟩:=X.out.f4 (i:=0) rfl
 have X:=Lib.hid (X.out.set4 (i:=0) rfl (.bool b3) (.string m3) (.bool false) (.string k3))
 go_simp
 refine hK.out _ _ (Or.inr (fun _=>⟨X.out.c3 (i:=1) rfl,X.out.c3 (i:=2) rfl⟩)) ?_
 clear hK K x0 x1 x2 x3 y0 y1 y2 y3
 try simp only [Act.put,seti,set0,setS]
 obtain ⟨W4,hV⟩:=wexi X.out
 rw [←hV] at X ⊢
 clear hV
 refine wpLate_done (by kernel_rfl) ?_ _
 go_wp2
 obtain ⟨p0,p1,p2,p3⟩:=X.out.c4 (i:=0) rfl
 exact bodyPost_ret (v:=.agg #[.bool b3,.string m3,.bool false,.string k3]) (by simp [results,Tryz.results45,go_sem,p0,p1,p2,p3]) rfl ⟨rfl,X.out.bel⟩

set_option maxHeartbeats 16000000 in
set_option maxRecDepth 100000 in
theorem rDiv_f {p q:Rat} {b1 b2 b3:Bool} {m1 m2 m3 k1 k2 k3:ByteArray} (hp:Rq p b1 m1 k1) (hq:Rq q b2 m2 k2) (hr:Rq (p / q) b3 m3 k3) (h0:q.num≠0) (s1:m1.size≤10000) (s2:m2.size≤10000) (s3:(mag p.den).size≤10000) (s4:(mag q.den).size≤10000) (w:World) :
  Calls Tryz.prog 47 #[.agg #[.bool b1,.string m1,.bool false,.string k1],.agg #[.bool b2,.string m2,.bool false,.string k2]] w (RetB w (.agg #[.bool b3,.string m3,.bool false,.string k3])):=by
 have ks:∀ {x:Rat} {b:Bool} {m k:ByteArray},Rq x b m k→(mag x.den).size≤10000→k.size≤10000:=fun {x b m k} h hs=>by
  by_cases hd:x.den=1
  · rw [h.den1 hd];exact Nat.zero_le _
  · rw [h.den2 hd];exact hs
 have HF1:=Lib.hid (fun V=>rof2 hp (by omega) (by have:=ks hp s3;omega) V)
 have HF2:=Lib.hid (fun V=>rof2 hq (by omega) (by have:=ks hq s4;omega) V)
 have n0:nd p.num.natAbs≤10000:=by unfold nd;rw [←hp.mag.2];exact s1
 have n1:nd p.den≤10000:=s3
 have n2:nd q.num.natAbs≤10000:=by unfold nd;rw [←hq.mag.2];exact s2
 have n3:nd q.den≤10000:=s4
 have HN0:=Lib.hid n0
 have HN1:=Lib.hid n1
 have HN2:=Lib.hid n2
 have HN3:=Lib.hid n3
 have n4:=nd_mul p.num.natAbs q.den
 have n5:=nd_mul p.den q.num.natAbs
 have hr':Rq (mkRat (sgn (b1 != b2) (p.num.natAbs*q.den)) (p.den*q.num.natAbs)) b3 m3 k3:=by
  have h1:=mk_divInt (p.num*(q.den:Int)) ((p.den:Int)*q.num) (Int.mul_ne_zero (by have:=p.den_nz;omega) h0)
  have e1:decide (p.num*(q.den:Int)<0)=b1:=by
   rw [hp.mag.1]
   have:=q.den_pos
   exact decide_eq_decide.2 ⟨fun h=>by rcases Int.lt_or_le p.num 0 with h2 | h2;exact h2;exact absurd h (by have:=Int.mul_nonneg h2 (show (0:Int)≤q.den by omega);omega),fun h=>Int.mul_neg_of_neg_of_pos h (by omega)⟩
  have e2:decide ((p.den:Int)*q.num<0)=b2:=by
   rw [hq.mag.1]
   have:=p.den_pos
   exact decide_eq_decide.2 ⟨fun h=>by rcases Int.lt_or_le q.num 0 with h2 | h2;exact h2;exact absurd h (by have:=Int.mul_nonneg (show (0:Int)≤p.den by omega) h2;omega),fun h=>Int.mul_neg_of_pos_of_neg (by omega) h⟩
  rw [e1,e2,Int.natAbs_mul,Int.natAbs_mul,Int.natAbs_natCast,Int.natAbs_natCast] at h1
  rw [h1]
  have h2:p / q=Rat.divInt (p.num*(q.den:Int)) ((p.den:Int)*q.num):=by
   rw [Rat.div_def,Rat.inv_def]
   conv=>lhs;lhs;rw [←divInt_self2 p]
   exact Rat.divInt_mul_divInt _ _
  rw [←h2]
  exact hr
 have hY:0<p.den*q.num.natAbs:=Nat.mul_pos p.den_pos (by omega)
 have hcn:∀ (A B:Option Addr) (n m c d:Nat) (V:World),Tr V A n c (p.num.natAbs*q.den)→Tr V B m d (p.den*q.num.natAbs)→Calls Tryz.prog 91 #[.agg #[.bool (b1 != b2),.slice A n c,.slice B m d]] V (RetB V (.agg #[.bool b3,.string m3,.bool false,.string k3])):=by
  intro A B n m c d V hA hB
  refine (rcanonical (b1 != b2) A B n m c d _ _ V (by have:=hA.ln;omega) (by have:=hB.ln;omega) hA hB hY).mono ?_
  rintro e w3 ⟨b4,m4,k4,rfl,hq4,hb3⟩
  obtain ⟨rfl,rfl,rfl⟩:=hr'.inj hq4
  exact ⟨rfl,hb3⟩
 have HCN:=Lib.hid hcn
 have X:=Lib.hid ((((Sb.start w).new #[.bool b1,.string m1,.bool false,.string k1] 25).new #[.bool b2,.string m2,.bool false,.string k2] 25).new #[.bool false,.string ⟨#[]⟩,.bool false,.string ⟨#[]⟩] 25)
 have X:=Lib.hid (X.out.pick [0,1,2] [(w.heap.size,#[.bool b1,.string m1,.bool false,.string k1],25),(w.heap.size+1,#[.bool b2,.string m2,.bool false,.string k2],25),(w.heap.size+1+1,#[.bool false,.string ⟨#[]⟩,.bool false,.string ⟨#[]⟩],25)] [] (by simp) (by decide) (by simp))
 clear hp hq hr hr' hcn hY n0 n1 n2 n3 n4 n5 s1 s2 s3 s4 ks h0
 go_enter Tryz.func47,Tryz.ntmps47
 go_upto_region 1 with fail
 go_cut [5,6] (fun s5 s6 wx=>∃ g5 g6 A1 n1 c1 B1 x1 d1 A3 n3 c3 B3 x3 d3,s5=.pointer (some ⟨g5,0,none⟩)∧s6=.pointer (some ⟨g6,0,none⟩)∧Sb w [(w.heap.size+1+1,#[.bool false,.string ⟨#[]⟩,.bool false,.string ⟨#[]⟩],25),(g5,#[.bool b1,.slice A1 n1 c1,.slice B1 x1 d1],121),(g6,#[.bool b2,.slice A3 n3 c3,.slice B3 x3 d3],121)] [(A1,n1,c1,p.num.natAbs),(B1,x1,d1,p.den),(A3,n3,c3,q.num.natAbs),(B3,x3,d3,q.den)] wx)
 case first =>
  refine wp_region_any (by kernel_rfl) ?_
  have X:=Lib.hid X.out.drew
  obtain ⟨W0,hV⟩:=wexi X.out
  rw [show ∀ v:World,{ v with drawn:=v.drawn+1 }=v.drew from fun _=>rfl,←hV]
  rw [←hV] at X
  clear hV
  refine rg_run (ef:=[.val (.agg #[.bool b1,.string m1,.bool false,.string k1]),.rel (FracP b1 p.num.natAbs p.den),.val (.agg #[.bool b2,.string m2,.bool false,.string k2]),.rel (FracP b2 q.num.natAbs q.den),.new #[.bool false,.slice none 0 0,.slice none 0 0] 121,.new #[.bool false,.slice none 0 0,.slice none 0 0] 121]) (ds:=[7,8,9,10,5,6]) (by kernel_rfl) (stays_of (List.forall_mem_cons.2 ⟨trivial,(List.forall_mem_cons.2 ⟨fine_frac _ _ _,(List.forall_mem_cons.2 ⟨trivial,(List.forall_mem_cons.2 ⟨fine_frac _ _ _,(List.forall_mem_cons.2 ⟨trivial,(List.forall_mem_cons.2 ⟨trivial,(fun _ h=>by simp at h)⟩)⟩)⟩)⟩)⟩)⟩)) (by decide) rfl (by intro d hd;simp at hd ⊢;omega) (fun i d o hd ho listed a w1 hR hdep K hK=>?_) 2 (fun a w1 hR=>?_)
  · have X:=Lib.hid (X.out.next hR.bel)
    have HKt:=Lib.hid hK
    have HDp:=Lib.hid hdep
    have sl2:a.tmps.getD 2 undef=.pointer (some ⟨w.heap.size,0,none⟩):=hR.keep 2 (by decide)
    have sl3:a.tmps.getD 3 undef=.pointer (some ⟨w.heap.size+1,0,none⟩):=hR.keep 3 (by decide)
    have HRg:=Lib.hid hR
    clear hK hdep hR
    rcases i with _ | _ | _ | _ | _ | _ | i
    · cases hd
      cases ho
      obtain ⟨x00,x01,x02,x03⟩:=X.out.c4 (i:=0) rfl
      obtain ⟨x10,x11,x12,x13⟩:=X.out.c4 (i:=1) rfl
      go_simp
      exact HKt.out _ _ (Or.inl ⟨rfl,Below.refl _ _⟩)
    · cases hd
      cases ho
      have dd0:a.tmps.getD 7 undef=.agg #[.bool b1,.string m1,.bool false,.string k1]:=HRg.out.val 0 _ (HDp.out 0 (by decide)) rfl
      go_simp
      (go_at_call 89;refine (HF1.out _).mono ?_;rintro e u ⟨A9,n9,c9,B9,m9,d9,rfl,hT9,hU9,hb9,_,_⟩)
      try go_wp2_with fail
      exact HKt.out _ _ (Or.inr (Or.inr ⟨_,rfl,⟨A9,n9,c9,B9,m9,d9,rfl,hT9,hU9⟩,hb9⟩))
    · cases hd
      cases ho
      obtain ⟨x00,x01,x02,x03⟩:=X.out.c4 (i:=0) rfl
      obtain ⟨x10,x11,x12,x13⟩:=X.out.c4 (i:=1) rfl
      go_simp
      exact HKt.out _ _ (Or.inl ⟨rfl,Below.refl _ _⟩)
    · cases hd
      cases ho
      have dd2:a.tmps.getD 9 undef=.agg #[.bool b2,.string m2,.bool false,.string k2]:=HRg.out.val 2 _ (HDp.out 2 (by decide)) rfl
      go_simp
      (go_at_call 89;refine (HF2.out _).mono ?_;rintro e u ⟨A9,n9,c9,B9,m9,d9,rfl,hT9,hU9,hb9,_,_⟩)
      try go_wp2_with fail
      exact HKt.out _ _ (Or.inr (Or.inr ⟨_,rfl,⟨A9,n9,c9,B9,m9,d9,rfl,hT9,hU9⟩,hb9⟩))
    · cases hd
      cases ho
      go_simp
      exact HKt.out _ _ (Or.inr (Or.inl ⟨_,_,rfl,rfl,rfl⟩))
    · cases hd
      cases ho
      go_simp
      exact HKt.out _ _ (Or.inr (Or.inl ⟨_,_,rfl,rfl,rfl⟩))
    · cases hd
  obtain ⟨g4,hg4,lg4,kg4⟩:=hR.new 4 _ _ (by rfl) rfl
  obtain ⟨g5,hg5,lg5,kg5⟩:=hR.new 5 _ _ (by rfl) rfl
  have vv0:a.tmps.getD 7 undef=.agg #[.bool b1,.string m1,.bool false,.string k1]:=hR.val 0 _ (by rfl) rfl
  obtain ⟨A1,n1,c1,B1,m1,d1,vv1,hT1,hU1⟩:=hR.rel 1 _ (by rfl) rfl
  replace vv1:a.tmps.getD 8 undef=.agg #[.bool b1,.slice A1 n1 c1,.slice B1 m1 d1]:=vv1
  have vv2:a.tmps.getD 9 undef=.agg #[.bool b2,.string m2,.bool false,.string k2]:=hR.val 2 _ (by rfl) rfl
  obtain ⟨A3,n3,c3,B3,m3,d3,vv3,hT3,hU3⟩:=hR.rel 3 _ (by rfl) rfl
  replace vv3:a.tmps.getD 10 undef=.agg #[.bool b2,.slice A3 n3 c3,.slice B3 m3 d3]:=vv3
  replace hg4:a.tmps.getD 5 undef=.pointer (some ⟨g4,0,none⟩):=hg4
  replace hg5:a.tmps.getD 6 undef=.pointer (some ⟨g5,0,none⟩):=hg5
  have hne:g4≠g5:=fun e=>hR.ne 4 5 _ _ _ _ g4 (by decide) (by rfl) (by rfl) rfl rfl hg4 (by rw [e];exact hg5)
  have X:=Lib.hid (X.out.add2 hR.bel lg4 kg4 lg5 kg5 hne)
  have X:=Lib.hid (X.out.rows [(A1,n1,c1,p.num.natAbs),(B1,m1,d1,p.den),(A3,n3,c3,q.num.natAbs),(B3,m3,d3,q.den)] (List.forall_mem_cons.2 ⟨hT1,List.forall_mem_cons.2 ⟨hU1,(List.forall_mem_cons.2 ⟨hT3,List.forall_mem_cons.2 ⟨hU3,(fun _ h=>by simp at h)⟩⟩)⟩⟩) (by intro x hx;simp at hx;rcases hx with rfl | rfl | rfl | rfl | rfl<;>(intro j k n;rcases j with _ | _ | _ | _ | _ | j<;>simp)))
  have ha:=hR.act
  simp only [List.foldl_cons,List.foldl_nil,seti,set0,setS,vv0,vv1,vv2,vv3,hg4,hg5] at ha
  subst ha
  clear hR vv0 vv1 vv2 vv3 hg4 lg4 kg4 hg5 lg5 kg5 hne
  refine wpAny_of_late (S:=fun _=>True) (L:=[]) _ _ _ _ ?_
  refine wpLate_one (i:=6) (o:=⟨none,_,_,_,_,_⟩) (by kernel_rfl) rfl (fun K hK=>?_)
  obtain ⟨x0,x1,x2⟩:=X.out.c3 (i:=3) rfl
  obtain ⟨y0,y1,y2⟩:=X.out.f3 (i:=3) rfl
  have X:=Lib.hid (X.out.set3 (i:=3) rfl (.bool b1) (.slice A1 n1 c1) (.slice B1 m1 d1))
  go_simp
  refine hK.out _ _ (Or.inr fun _=>trivial) ?_
  clear hK K x0 x1 x2 y0 y1 y2
  obtain ⟨W6,hV⟩:=wexi X.out
  rw [←hV] at X ⊢
  clear hV
  try simp only [Act.put]
  refine wpLate_one (i:=7) (o:=⟨none,_,_,_,_,_⟩) (by kernel_rfl) rfl (fun K hK=>?_)
  obtain ⟨x0,x1,x2⟩:=X.out.c3 (i:=4) rfl
  obtain ⟨y0,y1,y2⟩:=X.out.f3 (i:=4) rfl
  have X:=Lib.hid (X.out.set3 (i:=4) rfl (.bool b2) (.slice A3 n3 c3) (.slice B3 m3 d3))
  go_simp
  refine hK.out _ _ (Or.inr fun _=>trivial) ?_
  clear hK K x0 x1 x2 y0 y1 y2
  obtain ⟨W7,hV⟩:=wexi X.out
  rw [←hV] at X ⊢
  clear hV
  try simp only [Act.put]
  refine wpLate_done (by kernel_rfl) ?_ _
  go_wp2_with fail
  go_meet
  exact ⟨_,_,_,_,_,_,_,_,_,_,_,_,_,_,rfl,rfl,X.out.pick [2,3,4] _ _ rfl (by decide) (fun _ h=>h)⟩
 obtain ⟨g5,g6,A1,n1,c1,B1,x1,d1,A3,n3,c3,B3,x3,d3,rfl,rfl,hX⟩:=hcut
 have X:=Lib.hid hX
 clear hX
 go_upto_region 2 with fail
 refine wp_region_late (S:=fun w'=>(w'.cell? ⟨g5,0,none⟩=some (.bool b1)∧w'.cell? ⟨g5,1,none⟩=some (.slice A1 n1 c1)∧w'.cell? ⟨g5,2,none⟩=some (.slice B1 x1 d1))∧(w'.cell? ⟨g6,0,none⟩=some (.bool b2)∧w'.cell? ⟨g6,1,none⟩=some (.slice A3 n3 c3)∧w'.cell? ⟨g6,2,none⟩=some (.slice B3 x3 d3))) (L:=[]) (by kernel_rfl) ?_
 have X:=Lib.hid X.out.drew
 obtain ⟨V0,hV⟩:=wexi X.out
 rw [←hV] at X ⊢
 clear hV
 refine tk (i:=0) (oi:=⟨some 11,_,_,_,_,_⟩) (v:=_) rfl (by kernel_rfl) (fun _ _ _ h=>h) (⟨X.out.c3 (i:=1) rfl,X.out.c3 (i:=2) rfl⟩) (Or.inl ⟨by rfl,by intro w hSw;(try dsimp only at hSw);(first | (go_simp;done) | (go_simp;with_reducible rfl))⟩) ?_
 try simp only [Act.put,seti,set0,setS]
 refine tk (i:=1) (oi:=⟨some 12,_,_,_,_,_⟩) (v:=_) rfl (by kernel_rfl) (fun _ _ _ h=>h) (⟨X.out.c3 (i:=1) rfl,X.out.c3 (i:=2) rfl⟩) (Or.inl ⟨by rfl,by intro w hSw;(try dsimp only at hSw);(first | (go_simp;done) | (go_simp;with_reducible rfl))⟩) ?_
 try simp only [Act.put,seti,set0,setS]
 refine tk (i:=2) (oi:=⟨some 13,_,_,_,_,_⟩) (v:=_) rfl (by kernel_rfl) (fun _ _ _ h=>h) (⟨X.out.c3 (i:=1) rfl,X.out.c3 (i:=2) rfl⟩) (Or.inl ⟨by rfl,by intro w hSw;(try dsimp only at hSw);(first | (go_simp;done) | (go_simp;with_reducible rfl))⟩) ?_
 try simp only [Act.put,seti,set0,setS]
 refine tk (i:=3) (oi:=⟨some 14,_,_,_,_,_⟩) (v:=_) rfl (by kernel_rfl) (fun _ _ _ h=>h) (⟨X.out.c3 (i:=1) rfl,X.out.c3 (i:=2) rfl⟩) (Or.inl ⟨by rfl,by intro w hSw;(try dsimp only at hSw);(first | (go_simp;done) | (go_simp;with_reducible rfl))⟩) ?_
 try simp only [Act.put,seti,set0,setS]
 refine tk (i:=4) (oi:=⟨some 15,_,_,_,_,_⟩) (v:=_) rfl (by kernel_rfl) (fun _ _ _ h=>h) (⟨X.out.c3 (i:=1) rfl,X.out.c3 (i:=2) rfl⟩) (Or.inl ⟨by rfl,by intro w hSw;(try dsimp only at hSw);(first | (go_simp;done) | (go_simp;with_reducible rfl))⟩) ?_
 try simp only [Act.put,seti,set0,setS]
 refine tk (i:=5) (oi:=⟨some 16,_,_,_,_,_⟩) (v:=_) rfl (by kernel_rfl) (fun _ _ _ h=>h) (⟨X.out.c3 (i:=1) rfl,X.out.c3 (i:=2) rfl⟩) (Or.inl ⟨by rfl,by intro w hSw;(try dsimp only at hSw);(first | (go_simp;done) | (go_simp;with_reducible rfl))⟩) ?_
 try simp only [Act.put,seti,set0,setS]
 refine tk (i:=6) (oi:=⟨some 17,_,_,_,_,_⟩) (v:=_) rfl (by kernel_rfl) (fun _ _ _ h=>h) (⟨X.out.c3 (i:=1) rfl,X.out.c3 (i:=2) rfl⟩) (Or.inl ⟨by rfl,by intro w hSw;(try dsimp only at hSw);(first | (go_simp;done) | (go_simp;with_reducible rfl))⟩) ?_
 try simp only [Act.put,seti,set0,setS]
 refine tk (i:=7) (oi:=⟨some 18,_,_,_,_,_⟩) (v:=_) rfl (by kernel_rfl) (fun _ _ _ h=>h) (⟨X.out.c3 (i:=1) rfl,X.out.c3 (i:=2) rfl⟩) (Or.inl ⟨by rfl,by intro w hSw;(try dsimp only at hSw);(first | (go_simp;done) | (go_simp;with_reducible rfl))⟩) ?_
 try simp only [Act.put,seti,set0,setS]
 refine tk (i:=8) (oi:=⟨some 19,_,_,_,_,_⟩) (v:=_) rfl (by kernel_rfl) (fun _ _ _ h=>h) (⟨X.out.c3 (i:=1) rfl,X.out.c3 (i:=2) rfl⟩) (Or.inl ⟨by rfl,by intro w hSw;(try dsimp only at hSw);(first | (go_simp;done) | (go_simp;with_reducible rfl))⟩) ?_
 try simp only [Act.put,seti,set0,setS]
 refine tk (i:=10) (oi:=⟨some 21,_,_,_,_,_⟩) (v:=_) rfl (by kernel_rfl) (fun _ _ _ h=>h) (⟨X.out.c3 (i:=1) rfl,X.out.c3 (i:=2) rfl⟩) (Or.inl ⟨by rfl,by intro w hSw;(try dsimp only at hSw);(first | (go_simp;done) | (go_simp;with_reducible rfl))⟩) ?_
 try simp only [Act.put,seti,set0,setS]
 refine tk (i:=11) (oi:=⟨some 22,_,_,_,_,_⟩) (v:=_) rfl (by kernel_rfl) (fun _ _ _ h=>h) (⟨X.out.c3 (i:=1) rfl,X.out.c3 (i:=2) rfl⟩) (Or.inl ⟨by rfl,by intro w hSw;(try dsimp only at hSw);(first | (go_simp;done) | (go_simp;with_reducible rfl))⟩) ?_
 try simp only [Act.put,seti,set0,setS]
 refine tk (i:=12) (oi:=⟨some 23,_,_,_,_,_⟩) (v:=_) rfl (by kernel_rfl) (fun _ _ _ h=>h) (⟨X.out.c3 (i:=1) rfl,X.out.c3 (i:=2) rfl⟩) (Or.inl ⟨by rfl,by intro w hSw;(try dsimp only at hSw);(first | (go_simp;done) | (go_simp;with_reducible rfl))⟩) ?_
 try simp only [Act.put,seti,set0,setS]
 refine tk (i:=13) (oi:=⟨some 24,_,_,_,_,_⟩) (v:=_) rfl (by kernel_rfl) (fun _ _ _ h=>h) (⟨X.out.c3 (i:=1) rfl,X.out.c3 (i:=2) rfl⟩) (Or.inl ⟨by rfl,by intro w hSw;(try dsimp only at hSw);(first | (go_simp;done) | (go_simp;with_reducible rfl))⟩) ?_
 try simp only [Act.put,seti,set0,setS]
 refine wpLate_one (i:=9) (o:=⟨some 20,_,_,_,_,_⟩) (by kernel_rfl) rfl (fun K hK=>?_)
 go_simp
 (go_at_call 90;refine (rtimes _ _ _ _ _ _ _ _ _ (by have h:=(X.out.rw (i:=0) rfl).ln;have h2:=HN0.out;omega) (by have h:=(X.out.rw (i:=3) rfl).ln;have h2:=HN3.out;omega) (X.out.rw (i:=0) rfl).dg (X.out.rw (i:=3) rfl).dg).mono ?_;rintro e u1 ⟨A1,n1,c1,rfl,ht9,hb9,hf9⟩;have X:=Lib.hid (X.out.row hb9 ht9 hf9);clear hb9 ht9 hf9)
 try go_wp2_with fail
 refine hK.out _ _ (Or.inr (fun _=>⟨X.out.c3 (i:=1) rfl,X.out.c3 (i:=2) rfl⟩)) ?_
 clear hK K
 try simp only [Act.put,seti,set0,setS]
 refine wpLate_one (i:=14) (o:=⟨some 25,_,_,_,_,_⟩) (by kernel_rfl) rfl (fun K hK=>?_)
 go_simp
 (go_at_call 90;refine (rtimes _ _ _ _ _ _ _ _ _ (by have h:=(X.out.rw (i:=1) rfl).ln;have h2:=HN1.out;omega) (by have h:=(X.out.rw (i:=2) rfl).ln;have h2:=HN2.out;omega) (X.out.rw (i:=1) rfl).dg (X.out.rw (i:=2) rfl).dg).mono ?_;rintro e u2 ⟨A2,n2,c2,rfl,ht9,hb9,hf9⟩;have X:=Lib.hid (X.out.row hb9 ht9 hf9);clear hb9 ht9 hf9)
 try go_wp2_with fail
 refine hK.out _ _ (Or.inr (fun _=>⟨X.out.c3 (i:=1) rfl,X.out.c3 (i:=2) rfl⟩)) ?_
 clear hK K
 try simp only [Act.put,seti,set0,setS]
 refine tk (i:=15) (oi:=⟨some 26,_,_,_,_,_⟩) (v:=_) rfl (by kernel_rfl) (fun _ _ _ h=>h) (⟨X.out.c3 (i:=1) rfl,X.out.c3 (i:=2) rfl⟩) (Or.inl ⟨by rfl,by intro w hSw;(try dsimp only at hSw);(first | (go_simp;done) | (go_simp;with_reducible rfl))⟩) ?_
 try simp only [Act.put,seti,set0,setS]
 refine wpLate_one (i:=16) (o:=⟨some 27,_,_,_,_,_⟩) (by kernel_rfl) rfl (fun K hK=>?_)
 go_simp
 (go_at_call 91;refine (HCN.out _ _ _ _ _ _ _ (X.out.rw (i:=4) rfl) (X.out.rw (i:=5) rfl)).mono ?_;rintro e u3 ⟨rfl,hb9⟩;have X:=Lib.hid (X.out.next hb9);clear hb9)
 try go_wp2_with fail
 refine hK.out _ _ (Or.inr (fun _=>⟨X.out.c3 (i:=1) rfl,X.out.c3 (i:=2) rfl⟩)) ?_
 clear hK K
 try simp only [Act.put,seti,set0,setS]
 refine wpLate_one (i:=17) (o:=⟨none,_,_,_,_,_⟩) (by kernel_rfl) rfl (fun K hK=>?_)
 obtain ⟨x0,x1,x2,x3⟩:=X.out.c4 (i:=0) rfl
 obtain ⟨y0,y1,y2,y3⟩:=X.out.f4 (i:=0) rfl
 have X:=Lib.hid (X.out.set4 (i:=0) rfl (.bool b3) (.string m3) (.bool false) (.string k3))
 go_simp
 refine hK.out _ _ (Or.inr (fun _=>⟨X.out.c3 (i:=1) rfl,X.out.c3 (i:=2) rfl⟩)) ?_
 clear hK K x0 x1 x2 x3 y0 y1 y2 y3
 try simp only [Act.put,seti,set0,setS]
 obtain ⟨W4,hV⟩:=wexi X.out
 rw [←hV] at X ⊢
 clear hV
 refine wpLate_done (by kernel_rfl) ?_ _
 go_wp2
 obtain ⟨p0,p1,p2,p3⟩:=X.out.c4 (i:=0) rfl
 exact bodyPost_ret (v:=.agg #[.bool b3,.string m3,.bool false,.string k3]) (by simp [results,Tryz.results47,go_sem,p0,p1,p2,p3]) rfl ⟨rfl,X.out.bel⟩
end Go.Proofs.YtdbhahiieokplaaGreatDoor
