import Derived.Test.YtpnokfgplnmjpaaGreatDoorGRLL
import Derived.Test.YtpnokfgplnmjpaaGreatDoorGQW
set_option linter.unusedSimpArgs false
set_option linter.unusedVariables false

namespace Go.Proofs.YtpnokfgplnmjpaaGreatDoor
open Go.RowKit
attribute [local go_sem ↓] Go.wp_at_zero Go.wp_at_succ

theorem mk_irr {p q r a:Rat} {s:Int} (h:¬Sg.Sq r) (hq:q≠0) (ha:q*q*r=a) (hs:(if q<0 then -1 else 1)=s):Sg.mkR p q r=⟨p,a,s⟩:=by
 unfold Sg.mkR
 rw [if_neg h,if_neg hq,ha,hs]
theorem sum_irr {p r:Rat} {s:Int} (h:¬Sg.Sq r):Sg.sumP p s r=⟨p,r,if s<0 then -1 else 1⟩:=by
 unfold Sg.sumP
 rw [if_neg h]

set_option maxHeartbeats 8000000 in
set_option maxRecDepth 100000 in
theorem root_w {p q r:Int} {b1 b2 b3:Bool} {m1 m2 m3:ByteArray} {b4 c4 s4:Bool} {m4 k4 n4 l4:ByteArray} (h1:enc p=.agg #[.bool b1,.string m1]) (u1:-9223372036854775808≤p) (v1:p≤9223372036854775807) (h2:enc q=.agg #[.bool b2,.string m2]) (u2:-9223372036854775808≤q) (v2:q≤9223372036854775807) (h3:enc r=.agg #[.bool b3,.string m3]) (u3:-9223372036854775808≤r) (v3:r≤9223372036854775807) (HM:∀ V,Calls Tryz.prog 29 #[.agg #[.bool b1,.string m1,.bool false,.string ⟨#[]⟩],.agg #[.bool b2,.string m2,.bool false,.string ⟨#[]⟩],.agg #[.bool b3,.string m3,.bool false,.string ⟨#[]⟩]] V (RetB V (.agg #[.bool b4,.string m4,.bool false,.string k4,.bool c4,.string n4,.bool false,.string l4,.bool s4]))) (w:World) :
  Calls Tryz.prog 67 #[.int .i64 p,.int .i64 q,.int .i64 r] w (RetB w (.agg #[.bool b4,.string m4,.bool false,.string k4,.bool c4,.string n4,.bool false,.string l4,.bool s4])):=by
 have C4:=Lib.hid (fun V (_:Below w.heap.size w V)=>HM V)
 have C1:=kn w (whole_f h1 u1 v1)
 have C2:=kn w (whole_f h2 u2 v2)
 have C3:=kn w (whole_f h3 u3 v3)
 have RS:=Lib.hid Tryz.results67
 clear HM h1 u1 v1 h2 u2 v2 h3 u3 v3
 go_enter Tryz.func67,Tryz.ntmps67
 exact wk0

set_option maxHeartbeats 8000000 in
set_option maxRecDepth 100000 in
theorem known_w {bmo:Bool} {mmo:ByteArray} {bmt:Bool} {mmt:ByteArray} {bth:Bool} {mth:ByteArray} {bei:Bool} {mei:ByteArray} {bst:Bool} {mst:ByteArray} {bh3:Bool} {mh3:ByteArray} {kh3:ByteArray} {bh1:Bool} {mh1:ByteArray} {kh1:ByteArray} {bot:Bool} {mot:ByteArray} {kot:ByteArray} {bs3:Bool} {ms3:ByteArray} {ks3:ByteArray} {bt7:Bool} {mt7:ByteArray} {kt7:ByteArray} {btn:Bool} {mtn:ByteArray} {ktn:ByteArray} (qmo:Rq (-1) bmo mmo ⟨#[]⟩) (qmt:Rq (-2) bmt mmt ⟨#[]⟩) (qth:Rq (3) bth mth ⟨#[]⟩) (qei:Rq (8) bei mei ⟨#[]⟩) (qst:Rq (72) bst mst ⟨#[]⟩) (qh3:Rq (3 / 2) bh3 mh3 kh3) (qh1:Rq (1 / 2) bh1 mh1 kh1) (qot:Rq (1 / 3) bot mot kot) (qs3:Rq (7 / 3) bs3 ms3 ks3) (qt7:Rq (3 / 7) bt7 mt7 kt7) (qtn:Rq (10 / 7) btn mtn ktn) (w:World) (hE:Env w) :
  Calls Tryz.prog 15 #[] w (RetB w (.bool true)):=by
 have C16:=Lib.hid (show ∀ V,Below w.heap.size w V→Calls Tryz.prog 34 #[.agg #[.bool false,.string ⟨#[1]⟩,.bool false,.string ⟨#[]⟩,.bool false,.string ⟨#[2]⟩,.bool false,.string ⟨#[]⟩,.bool true],.agg #[.bool false,.string ⟨#[1]⟩,.bool false,.string ⟨#[]⟩,.bool false,.string ⟨#[2]⟩,.bool false,.string ⟨#[]⟩,.bool false]] V (RetB V (.int .i64 (-1))) from fun V hb=>by have h:=cmp_irr (⟨qo,qt,by decide⟩:Rv (⟨1,2,-1⟩:Sg.Rl) false ⟨#[1]⟩ ⟨#[]⟩ false ⟨#[2]⟩ ⟨#[]⟩ true) (⟨qo,qt,by decide⟩:Rv (⟨1,2,1⟩:Sg.Rl) false ⟨#[1]⟩ ⟨#[]⟩ false ⟨#[2]⟩ ⟨#[]⟩ false) (show ((⟨1,2,-1⟩:Sg.Rl)).Ok from ⟨.inr rfl,.inr ⟨by decide +kernel,nsq_two⟩⟩) (show ((⟨1,2,1⟩:Sg.Rl)).Ok from ⟨.inl rfl,.inr ⟨by decide +kernel,nsq_two⟩⟩) (by decide +kernel) (by decide +kernel) (show Rz 500 (⟨1,2,-1⟩:Sg.Rl) from ⟨(show Sz 1 _ from ⟨by decide +kernel,by decide +kernel⟩).up (by omega),(show Sz 1 _ from ⟨by decide +kernel,by decide +kernel⟩).up (by omega)⟩) (show Rz 500 (⟨1,2,1⟩:Sg.Rl) from ⟨(show Sz 1 _ from ⟨by decide +kernel,by decide +kernel⟩).up (by omega),(show Sz 1 _ from ⟨by decide +kernel,by decide +kernel⟩).up (by omega)⟩) (.inr (.inr ⟨rfl,rfl,rfl⟩)) V (hE.next hb);rw [show Sg.cmpP ((⟨1,2,-1⟩:Sg.Rl).p-(⟨1,2,1⟩:Sg.Rl).p) (⟨1,2,-1⟩:Sg.Rl).s (⟨1,2,-1⟩:Sg.Rl).a (⟨1,2,1⟩:Sg.Rl).s (⟨1,2,1⟩:Sg.Rl).a=-1 from by decide +kernel] at h;exact h)
 have HRo:=Lib.hid (show ∀ V,Below w.heap.size w V→Calls Tryz.prog 31 #[.agg #[.bool bmo,.string mmo,.bool false,.string ⟨#[]⟩,.bool bmt,.string mmt,.bool false,.string ⟨#[]⟩,.bool false,.string ⟨#[1]⟩,.bool false,.string ⟨#[]⟩]] V (RetLs V #[.bool false,.string ⟨#[1]⟩,.bool false,.string ⟨#[]⟩,.bool false,.string ⟨#[2]⟩,.bool false,.string ⟨#[]⟩,.bool true,.bool false,.string ⟨#[1]⟩,.bool false,.string ⟨#[]⟩,.bool false,.string ⟨#[2]⟩,.bool false,.string ⟨#[]⟩,.bool false] 27 2) from fun V hb=>roots_two_false (p:=1) qmo qmt qo (by decide +kernel) ((show Sz 1 (-1) from ⟨by decide +kernel,by decide +kernel⟩).up (by omega)) ((show Sz 1 (-2) from ⟨by decide +kernel,by decide +kernel⟩).up (by omega)) ((show Sz 1 (1) from ⟨by decide +kernel,by decide +kernel⟩).up (by omega)) (by decide +kernel) (by decide +kernel) (show Rv (Sg.sumP 1 (-1) ((1:Rat)*1 - -1 / 1)) false ⟨#[1]⟩ ⟨#[]⟩ false ⟨#[2]⟩ ⟨#[]⟩ true from by rw [show ((1:Rat)*1 - -1 / 1)=2 from by decide +kernel,show Sg.sumP 1 (-1) 2=(⟨1,2,-1⟩:Sg.Rl) from sum_irr (Sg.nsq_sq.1 nsq_two)];exact (⟨qo,qt,by decide⟩:Rv (⟨1,2,-1⟩:Sg.Rl) false ⟨#[1]⟩ ⟨#[]⟩ false ⟨#[2]⟩ ⟨#[]⟩ true)) (show Rv (Sg.sumP 1 (1) ((1:Rat)*1 - -1 / 1)) false ⟨#[1]⟩ ⟨#[]⟩ false ⟨#[2]⟩ ⟨#[]⟩ false from by rw [show ((1:Rat)*1 - -1 / 1)=2 from by decide +kernel,show Sg.sumP 1 (1) 2=(⟨1,2,1⟩:Sg.Rl) from sum_irr (Sg.nsq_sq.1 nsq_two)];exact (⟨qo,qt,by decide⟩:Rv (⟨1,2,1⟩:Sg.Rl) false ⟨#[1]⟩ ⟨#[]⟩ false ⟨#[2]⟩ ⟨#[]⟩ false)) V (hE.next hb))
 have C1:=kn w (whole_f (x:=-1) qmo.num (by omega) (by omega))
 have C2:=kn w (whole_f (x:=-2) qmt.num (by omega) (by omega))
 have C3:=kn w (whole_f (x:=1) qo.num (by omega) (by omega))
 have C4:=kn w (whole_f (x:=0) qz.num (by omega) (by omega))
 have C5:=kn w (whole_f (x:=3) qth.num (by omega) (by omega))
 have C6:=kn w (whole_f (x:=8) qei.num (by omega) (by omega))
 have C7:=kn w (whole_f (x:=72) qst.num (by omega) (by omega))
 have C8:=kn w (root_w (p:=0) (q:=1) (r:=2) qz.num (by omega) (by omega) qo.num (by omega) (by omega) qt.num (by omega) (by omega) (fun V=>fmk_f qz qo qt ((show Sz 1 (0) from ⟨by decide +kernel,by decide +kernel⟩).up (by omega)) ((show Sz 1 (1) from ⟨by decide +kernel,by decide +kernel⟩).up (by omega)) ((show Sz 1 (2) from ⟨by decide +kernel,by decide +kernel⟩).up (by omega)) (show Rv (Sg.mkR (0) (1) (2)) false ⟨#[]⟩ ⟨#[]⟩ false ⟨#[2]⟩ ⟨#[]⟩ false from by rw [show Sg.mkR (0) (1) (2)=(⟨0,2,1⟩:Sg.Rl) from mk_irr (Sg.nsq_sq.1 nsq_two) (by decide +kernel) (by decide +kernel) (by decide +kernel)];exact (⟨qz,qt,by decide⟩:Rv (⟨0,2,1⟩:Sg.Rl) false ⟨#[]⟩ ⟨#[]⟩ false ⟨#[2]⟩ ⟨#[]⟩ false)) V))
 have C9:=kn w (root_w (p:=1) (q:=-1) (r:=2) qo.num (by omega) (by omega) qmo.num (by omega) (by omega) qt.num (by omega) (by omega) (fun V=>fmk_f qo qmo qt ((show Sz 1 (1) from ⟨by decide +kernel,by decide +kernel⟩).up (by omega)) ((show Sz 1 (-1) from ⟨by decide +kernel,by decide +kernel⟩).up (by omega)) ((show Sz 1 (2) from ⟨by decide +kernel,by decide +kernel⟩).up (by omega)) (show Rv (Sg.mkR (1) (-1) (2)) false ⟨#[1]⟩ ⟨#[]⟩ false ⟨#[2]⟩ ⟨#[]⟩ true from by rw [show Sg.mkR (1) (-1) (2)=(⟨1,2,-1⟩:Sg.Rl) from mk_irr (Sg.nsq_sq.1 nsq_two) (by decide +kernel) (by decide +kernel) (by decide +kernel)];exact (⟨qo,qt,by decide⟩:Rv (⟨1,2,-1⟩:Sg.Rl) false ⟨#[1]⟩ ⟨#[]⟩ false ⟨#[2]⟩ ⟨#[]⟩ true)) V))
 have C10:=kn w (root_w (p:=1) (q:=1) (r:=2) qo.num (by omega) (by omega) qo.num (by omega) (by omega) qt.num (by omega) (by omega) (fun V=>fmk_f qo qo qt ((show Sz 1 (1) from ⟨by decide +kernel,by decide +kernel⟩).up (by omega)) ((show Sz 1 (1) from ⟨by decide +kernel,by decide +kernel⟩).up (by omega)) ((show Sz 1 (2) from ⟨by decide +kernel,by decide +kernel⟩).up (by omega)) (show Rv (Sg.mkR (1) (1) (2)) false ⟨#[1]⟩ ⟨#[]⟩ false ⟨#[2]⟩ ⟨#[]⟩ false from by rw [show Sg.mkR (1) (1) (2)=(⟨1,2,1⟩:Sg.Rl) from mk_irr (Sg.nsq_sq.1 nsq_two) (by decide +kernel) (by decide +kernel) (by decide +kernel)];exact (⟨qo,qt,by decide⟩:Rv (⟨1,2,1⟩:Sg.Rl) false ⟨#[1]⟩ ⟨#[]⟩ false ⟨#[2]⟩ ⟨#[]⟩ false)) V))
 have C11:=kn w (rOf_f (x:=3) (y:=2) (show Rq (Rat.divInt 3 2) bh3 mh3 kh3 from by rw [show Rat.divInt 3 2=3 / 2 from by decide +kernel];exact qh3) (by omega) (by omega) (by omega) (by omega) (by omega))
 have C12:=kn w (rOf_f (x:=10) (y:=7) (show Rq (Rat.divInt 10 7) btn mtn ktn from by rw [show Rat.divInt 10 7=10 / 7 from by decide +kernel];exact qtn) (by omega) (by omega) (by omega) (by omega) (by omega))
 have C13:=kn w (of_any bh3 mh3 kh3)
 have C14:=ke hE (known_between qmo qmt qth qei qst qh3 qh1 qot qs3 qt7 qtn)
 have C15:=ke hE (rmk_f qz qth qei (by decide +kernel) ((show Sz 1 (0) from ⟨by decide +kernel,by decide +kernel⟩).up (by omega)) ((show Sz 1 (3) from ⟨by decide +kernel,by decide +kernel⟩).up (by omega)) ((show Sz 1 (8) from ⟨by decide +kernel,by decide +kernel⟩).up (by omega)) (show Rv (Sg.mkR 0 3 8) false ⟨#[]⟩ ⟨#[]⟩ bst mst ⟨#[]⟩ false from by rw [show Sg.mkR 0 3 8=(⟨0,72,1⟩:Sg.Rl) from mk_irr (Sg.nsq_sq.1 (nsq_nat (n:=8) (r:=2) (by decide) (by decide))) (by decide +kernel) (by decide +kernel) (by decide +kernel)];exact (⟨qz,qst,by decide⟩:Rv (⟨0,72,1⟩:Sg.Rl) false ⟨#[]⟩ ⟨#[]⟩ bst mst ⟨#[]⟩ false)))
 have Z1:Hid (∀ {p:Prop} (h:p:=by ((go_at_call 31;(with_reducible refine (HRo.out _ X.out.bel).mono ?_);rintro e u ⟨gl,rfl,hlo,hk9,hb9⟩;replace X:=Lib.hid (X.out.add hb9 hlo hk9);clear hb9 hlo hk9;replace F:=X.out.facts;simp only [Facts,cellsAt,List.take_succ_cons,List.take_zero,Nat.reduceAdd,and_true,List.set_cons_succ,List.set_cons_zero,List.cons_append,List.nil_append] at F);all_goals exact wk)),p):=@fun _ h=>h
 clear qmo qmt qth qei qst qh3 qh1 qot qs3 qt7 qtn hE
 go_enter Tryz.func15,Tryz.ntmps15
 exact wk0

theorem rknown3 (w:World) (hE:Env w):Calls Tryz.prog 15 #[] w (RetB w (.bool true)):=by
 obtain ⟨bmo,mmo,qmo⟩:=Rq.int_ (q:=-1) rfl
 obtain ⟨bmt,mmt,qmt⟩:=Rq.int_ (q:=-2) rfl
 obtain ⟨bth,mth,qth⟩:=Rq.int_ (q:=3) rfl
 obtain ⟨bei,mei,qei⟩:=Rq.int_ (q:=8) rfl
 obtain ⟨bst,mst,qst⟩:=Rq.int_ (q:=72) rfl
 obtain ⟨bh3,mh3,kh3,qh3⟩:=Rq.some_ (3 / 2)
 obtain ⟨bh1,mh1,kh1,qh1⟩:=Rq.some_ (1 / 2)
 obtain ⟨bot,mot,kot,qot⟩:=Rq.some_ (1 / 3)
 obtain ⟨bs3,ms3,ks3,qs3⟩:=Rq.some_ (7 / 3)
 obtain ⟨bt7,mt7,kt7,qt7⟩:=Rq.some_ (3 / 7)
 obtain ⟨btn,mtn,ktn,qtn⟩:=Rq.some_ (10 / 7)
 exact known_w qmo qmt qth qei qst qh3 qh1 qot qs3 qt7 qtn w hE
end Go.Proofs.YtpnokfgplnmjpaaGreatDoor
